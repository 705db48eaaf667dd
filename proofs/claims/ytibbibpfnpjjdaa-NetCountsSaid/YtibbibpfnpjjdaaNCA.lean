/- 'NetCounts' answers true for any calls.
   No condition beyond the row's own. -/
import Derived.Test.YtibbibpfnpjjdaaNAI
import Derived.Deep.DeepCutAuto
import Derived.Deep.CutBlock
import Derived.Test.YtibbibpfnpjjdaaRows

/- The law of the calls. -/
namespace Go.Proofs.Ytibbibpfnpjjdaa
open Go.RowKit
set_option linter.unusedSimpArgs false
set_option linter.unusedVariables false

end Go.Proofs.Ytibbibpfnpjjdaa

/- The law of the counts. -/
namespace Go.Proofs.Ytibbibpfnpjjdaa
open Go.RowKit
set_option linter.unusedSimpArgs false
set_option linter.unusedVariables false

def CnIn (w : World) (g t : Nat) (s : NtS) (M : Int) (wr : World) : Prop :=
  ∃ go A c es, ∃ s' : NtS, NtIn w.heap.size wr g t go A c es s' ∧ Below w.heap.size w wr ∧ NtOk s' ∧ ∀ x ∈ s'.2, x ≤ M
set_option maxRecDepth 100000 in
set_option maxHeartbeats 8000000 in
theorem law_counts (A : Option Addr) (n c : Nat) (Os : List OpA) (w : World) (h : RdS w w.heap.size 4 A n c (rowsV oC Os)) (ho : ∀ o ∈ Os, OpOk w.heap.size w o) :
    Calls Try.prog 4 #[.slice A n c] w fun e w' => e = .returned (.bool true) ∧ Below w.heap.size w w' := by
  have HR := Lib.hid h
  have HOs := Lib.hid ho
  have Hl : RowKit.Hid (Os.length = n) := Lib.hid (h.rlen oC_len (by decide))
  clear h ho
  go_enter Try.func4, Try.ntmps4
  go_wp2_with fail
  refine (shown21 w).mono ?_
  rintro e w1 ⟨rfl, hb1⟩
  have HB1 := Lib.hid hb1
  clear hb1
  go_wp2_with fail
  refine (nt_new w1).mono ?_
  rintro e w2 ⟨g, t, rfl, hW, hT, hg, ht, -, hb⟩
  have H0 : RowKit.Hid (CnIn w g t zeroN (6 * ((0 : Nat) : Int)) w2) := Lib.hid ⟨none, none, 0, [], zeroN, (NtIn.new hW hT hg ht).lo_ HB1.out.size, bel_bl HB1.out hb, zeroN_ok, by decide⟩
  clear hW hT hg ht hb HB1
  go_upto_region 6 with fail
  go_loopw [5] (fun v5 wr => ∃ j : Nat, j ≤ n ∧ j ≤ 80 ∧ v5 = .int .i64 (j : Int) ∧ RowKit.Hid (CnIn w g t zeroN (6 * (j : Int)) wr)) (fun v5 _ => 80 - (intOf v5).toNat)
  case atStart => exact ⟨0, Nat.zero_le _, Nat.zero_le _, rfl, H0⟩
  case round =>
    clear H0
    obtain ⟨j, hj, hj8, rfl, hin⟩ := hrel
    by_cases hlt : j < n ∧ j < 80
    · obtain ⟨hl1, hl2⟩ := hlt
      have hi1 : (j : Int) < (n : Int) := by omega
      have hi2 : (j : Int) < 80 := by omega
      obtain ⟨x, hx⟩ : ∃ x, Os[j]? = some x := ⟨_, List.getElem?_eq_getElem (by have := Hl.out; omega)⟩
      have HOx := Lib.hid (HOs.out x (List.mem_of_getElem? hx))
      obtain ⟨b, off, rfl, hbB, hpl⟩ := HR.out.place oC_len (by decide) (by omega)
      have hP := hpl j x hx
      obtain ⟨⟨k, i, a⟩, ⟨Af, nf, cf⟩, Fs⟩ := x
      have l0 : wr.cell? ⟨b, off + j * 4, none⟩ = some (.int .i64 k) := by
        obtain ⟨go, A, c, es, s, hN, hb, hs, hsm⟩ := hin.out
        have hq := (hb.cell (p := (⟨b, off + j * 4, none⟩ : Addr).add 0) (by rw [add_block]; exact hbB)).trans (hP 0 (.int .i64 k) rfl)
        rw [Addr.add_lit] at hq
        simpa using hq
      obtain ⟨kz, gkz⟩ : ∃ z : Int, bits .and .i64 k 7 = z := ⟨_, rfl⟩
      have Gkz : RowKit.Hid (kz = (kd k : Int)) := Lib.hid (gkz ▸ (kd_is k).1)
      go_upto_block 2 with fail
      clear l0 gkz
      go_cut [] (fun z => CnIn w g t zeroN (6 * (j : Int) + 6) z)
      case first =>
        obtain ⟨go, A, c, es, s, hN, hb, hs, hsm⟩ := hin.out
        have hq : ∀ j' v, (oC ((k, i, a), (Af, nf, cf), Fs))[j']? = some v → wr.cell? ((⟨b, off + j * 4, none⟩ : Addr).add j') = some v := fun j' v hv => (hb.cell (p := (⟨b, off + j * 4, none⟩ : Addr).add j') (by rw [add_block]; exact hbB)).trans (hP j' v hv)
        have l0 := hq 0 (.int .i64 k) rfl
        have l1 := hq 1 (.int .i64 i) rfl
        have l2 := hq 2 (.int .i64 a) rfl
        have l3 := hq 3 (.slice Af nf cf) rfl
        rw [Addr.add_lit] at l0 l1 l2 l3
        simp only [Nat.add_zero] at l0
        have HOw := Lib.hid (HOx.out.below hb)
        have HBy := Lib.hid (OpOk.bytes HOx.out)
        have HN := Lib.hid hN
        have HB := Lib.hid hb
        have Hs := Lib.hid hs
        have HT2 := Lib.hid hsm
        have HT : RowKit.Hid (∀ x ∈ s.2, x ≤ 1000000) := Lib.hid (fun x hx => by have := hsm x hx; omega)
        have h7 := (kd_is k).2
        have hor : kd k ≤ 2 ∨ kd k = 3 ∨ kd k = 4 ∨ kd k = 5 ∨ kd k = 6 ∨ kd k = 7 := by omega
        have ll1 : ∀ w', Kept (NtT g t go (wayB A)) wr.drew w' → w'.cell? ⟨b, off + j * 4 + 1, none⟩ = some (.int .i64 i) := fun w' hk => hk.cell (show wr.drew.cell? ⟨b, off + j * 4 + 1, none⟩ = _ from l1) (fun q => by have := (hN.lt b q).1; omega)
        have ll2 : ∀ w', Kept (NtT g t go (wayB A)) wr.drew w' → w'.cell? ⟨b, off + j * 4 + 2, none⟩ = some (.int .i64 a) := fun w' hk => hk.cell (show wr.drew.cell? ⟨b, off + j * 4 + 2, none⟩ = _ from l2) (fun q => by have := (hN.lt b q).1; omega)
        have LL := Lib.hid (And.intro ll1 ll2)
        clear ll1 ll2 hN hb hs hsm hin hq hP hpl hbB hx h7
        rcases hor with hk | hk | hk | hk | hk | hk
        · have HOP : RowKit.Hid (opN s ((k, i, a), (Af, nf, cf), Fs) = sendN s (keyF (fewF Fs))) := Lib.hid (by
            unfold opN
            show (match kd k with | 3 => _ | 4 => _ | 5 => _ | 6 => _ | 7 => _ | _ => _) = _
            have h2 : kd k = 0 ∨ kd k = 1 ∨ kd k = 2 := by omega
            rcases h2 with e | e | e <;> · rw [e]; rfl)
          have q3 : (kz == 3) = false := by have h1 := Gkz.out; rw [beq_eq_false_iff_ne]; omega
          have q4 : (kz == 4) = false := by have h1 := Gkz.out; rw [beq_eq_false_iff_ne]; omega
          have q5 : (kz == 5) = false := by have h1 := Gkz.out; rw [beq_eq_false_iff_ne]; omega
          have q6 : (kz == 6) = false := by have h1 := Gkz.out; rw [beq_eq_false_iff_ne]; omega
          have q7 : (kz == 7) = false := by have h1 := Gkz.out; rw [beq_eq_false_iff_ne]; omega
          clear hk
          have HC := Lib.hid (few_op HOw.out)
          go_wp2_with fail
          refine HC.out.mono ?_
          rintro e w2 ⟨A3, n3, c3, rfl, hn3, hf3, hS3, hb3⟩
          have HS3 := Lib.hid (nt_send w2 (HN.out.below hb3) Hs.out A3 n3 c3 _ hf3 (by omega) (hS3 (NtT g t go (wayB A)) (fun b hb => HN.out.lt b hb)) (fun x hx => by have := HT2.out x hx; omega))
          have HB3 := Lib.hid hb3
          clear hf3 hS3 hb3 HC hn3
          go_wp2_with fail
          refine HS3.out.mono ?_
          rintro e w4 ⟨rfl, go1, A1, c1, es1, hN, hG⟩
          replace hG := (NtGo.below (S := NtT g t go (wayB A)) HB3.out).trans hG
          have HN2 := Lib.hid hN
          have HB2 := Lib.hid (HB.out.trans (hG.k.below HB.out.size (fun i hi e => by have := (HN.out.lt i e).1; omega)))
          clear hN hG HS3
          go_wp2_with fail
          go_meet
          refine ⟨go1, A1, c1, es1, opN s ((k, i, a), (Af, nf, cf), Fs), ?_, HB2.out, opN_ok (o := ((k, i, a), (Af, nf, cf), Fs)) Hs.out HBy.out, opN_small (o := ((k, i, a), (Af, nf, cf), Fs)) HT2.out (by omega)⟩
          rw [HOP.out]
          exact HN2.out
        · have HOP : RowKit.Hid (opN s ((k, i, a), (Af, nf, cf), Fs) = delivN s i) := Lib.hid (by
            unfold opN
            show (match kd k with | 3 => _ | 4 => _ | 5 => _ | 6 => _ | 7 => _ | _ => _) = _
            rw [show kd k = 3 from hk]
            rfl)
          have q3 : (kz == 3) = true := by have h1 := Gkz.out; rw [beq_iff_eq]; omega
          clear hk
          have HC := Lib.hid (nt_deliv wr HN.out Hs.out i HT.out)
          go_wp2_with fail
          refine HC.out.mono ?_
          rintro e w2 ⟨A2, c2, rfl, -, -, go1, es1, hN, hG⟩
          have HN2 := Lib.hid hN
          have HB2 := Lib.hid (HB.out.trans (hG.k.below HB.out.size (fun i hi e => by have := (HN.out.lt i e).1; omega)))
          clear hN hG HC
          go_wp2_with fail
          go_meet
          refine ⟨go1, A, c, es1, opN s ((k, i, a), (Af, nf, cf), Fs), ?_, HB2.out, opN_ok (o := ((k, i, a), (Af, nf, cf), Fs)) Hs.out HBy.out, opN_small (o := ((k, i, a), (Af, nf, cf), Fs)) HT2.out (by omega)⟩
          rw [HOP.out]
          exact HN2.out
        · have HOP : RowKit.Hid (opN s ((k, i, a), (Af, nf, cf), Fs) = dropN s i) := Lib.hid (by
            unfold opN
            show (match kd k with | 3 => _ | 4 => _ | 5 => _ | 6 => _ | 7 => _ | _ => _) = _
            rw [show kd k = 4 from hk]
            rfl)
          have q3 : (kz == 3) = false := by have h1 := Gkz.out; rw [beq_eq_false_iff_ne]; omega
          have q4 : (kz == 4) = true := by have h1 := Gkz.out; rw [beq_iff_eq]; omega
          clear hk
          have HC := Lib.hid (nt_drop' wr HN.out Hs.out i HT.out)
          go_wp2_with fail
          refine HC.out.mono ?_
          rintro e w2 ⟨rfl, go1, A1, c1, es1, hN, hG⟩
          have HN2 := Lib.hid hN
          have HB2 := Lib.hid (HB.out.trans (hG.k.below HB.out.size (fun i hi e => by have := (HN.out.lt i e).1; omega)))
          clear hN hG HC
          go_wp2_with fail
          go_meet
          refine ⟨go1, A1, c1, es1, opN s ((k, i, a), (Af, nf, cf), Fs), ?_, HB2.out, opN_ok (o := ((k, i, a), (Af, nf, cf), Fs)) Hs.out HBy.out, opN_small (o := ((k, i, a), (Af, nf, cf), Fs)) HT2.out (by omega)⟩
          rw [HOP.out]
          exact HN2.out
        · have HOP : RowKit.Hid (opN s ((k, i, a), (Af, nf, cf), Fs) = doubN s i) := Lib.hid (by
            unfold opN
            show (match kd k with | 3 => _ | 4 => _ | 5 => _ | 6 => _ | 7 => _ | _ => _) = _
            rw [show kd k = 5 from hk]
            rfl)
          have q3 : (kz == 3) = false := by have h1 := Gkz.out; rw [beq_eq_false_iff_ne]; omega
          have q4 : (kz == 4) = false := by have h1 := Gkz.out; rw [beq_eq_false_iff_ne]; omega
          have q5 : (kz == 5) = true := by have h1 := Gkz.out; rw [beq_iff_eq]; omega
          clear hk
          have HC := Lib.hid (nt_doub wr HN.out Hs.out i HT.out)
          go_wp2_with fail
          refine HC.out.mono ?_
          rintro e w2 ⟨rfl, go1, A1, c1, es1, hN, hG⟩
          have HN2 := Lib.hid hN
          have HB2 := Lib.hid (HB.out.trans (hG.k.below HB.out.size (fun i hi e => by have := (HN.out.lt i e).1; omega)))
          clear hN hG HC
          go_wp2_with fail
          go_meet
          refine ⟨go1, A1, c1, es1, opN s ((k, i, a), (Af, nf, cf), Fs), ?_, HB2.out, opN_ok (o := ((k, i, a), (Af, nf, cf), Fs)) Hs.out HBy.out, opN_small (o := ((k, i, a), (Af, nf, cf), Fs)) HT2.out (by omega)⟩
          rw [HOP.out]
          exact HN2.out
        · have HOP : RowKit.Hid (opN s ((k, i, a), (Af, nf, cf), Fs) = turnN s i a) := Lib.hid (by
            unfold opN
            show (match kd k with | 3 => _ | 4 => _ | 5 => _ | 6 => _ | 7 => _ | _ => _) = _
            rw [show kd k = 6 from hk]
            rfl)
          have q3 : (kz == 3) = false := by have h1 := Gkz.out; rw [beq_eq_false_iff_ne]; omega
          have q4 : (kz == 4) = false := by have h1 := Gkz.out; rw [beq_eq_false_iff_ne]; omega
          have q5 : (kz == 5) = false := by have h1 := Gkz.out; rw [beq_eq_false_iff_ne]; omega
          have q6 : (kz == 6) = true := by have h1 := Gkz.out; rw [beq_iff_eq]; omega
          clear hk
          obtain ⟨ll1, ll2⟩ := LL.out
          go_upto_region 17 with fail
          refine wp_region_reg (NtT g t go (wayB A)) (by kernel_rfl) ?_
          apply wpR_next 0 (some 68)
          · simp only [List.getElem?_toArray, List.getElem?_cons_succ, List.getElem?_cons_zero]; exact rfl
          · rfl
          · kernel_rfl
          · kernel_rfl
          · kernel_rfl
          · exact fun _ _ _ _ h => h
          apply Exists.intro
          apply And.intro
          · apply yr_run; rfl; intro w' hw'; go_simp; (try with_reducible rfl)
          simp only [Act.put, List.setIfInBounds_toArray, List.set_cons_zero, List.set_cons_succ]
          apply wpR_next 1 (some 69)
          · simp only [List.getElem?_toArray, List.getElem?_cons_succ, List.getElem?_cons_zero]; exact rfl
          · rfl
          · kernel_rfl
          · kernel_rfl
          · kernel_rfl
          · exact fun _ _ _ _ h => h
          apply Exists.intro
          apply And.intro
          · apply yr_run; rfl; intro w' hw'; go_simp; (try with_reducible rfl)
          simp only [Act.put, List.setIfInBounds_toArray, List.set_cons_zero, List.set_cons_succ]
          apply wpR_next 2 (some 70)
          · simp only [List.getElem?_toArray, List.getElem?_cons_succ, List.getElem?_cons_zero]; exact rfl
          · rfl
          · kernel_rfl
          · kernel_rfl
          · kernel_rfl
          · exact fun _ _ _ _ h => h
          apply Exists.intro
          apply And.intro
          · apply yr_run; rfl; intro w' hw'; go_simp; (try with_reducible rfl)
          simp only [Act.put, List.setIfInBounds_toArray, List.set_cons_zero, List.set_cons_succ]
          apply wpR_next 3 (some 71)
          · simp only [List.getElem?_toArray, List.getElem?_cons_succ, List.getElem?_cons_zero]; exact rfl
          · rfl
          · kernel_rfl
          · kernel_rfl
          · kernel_rfl
          · exact fun _ _ _ _ h => h
          apply Exists.intro
          apply And.intro
          · apply yr_run; rfl; intro w' hw'; go_simp; (try with_reducible rfl)
          simp only [Act.put, List.setIfInBounds_toArray, List.set_cons_zero, List.set_cons_succ]
          apply wpR_next 4 (some 72)
          · simp only [List.getElem?_toArray, List.getElem?_cons_succ, List.getElem?_cons_zero]; exact rfl
          · rfl
          · kernel_rfl
          · kernel_rfl
          · kernel_rfl
          · exact fun _ _ _ _ h => h
          apply Exists.intro
          apply And.intro
          · apply yr_run; rfl; intro w' hw'; go_simp; (try with_reducible rfl)
          simp only [Act.put, List.setIfInBounds_toArray, List.set_cons_zero, List.set_cons_succ]
          apply wpR_next 5 (some 73)
          · simp only [List.getElem?_toArray, List.getElem?_cons_succ, List.getElem?_cons_zero]; exact rfl
          · rfl
          · kernel_rfl
          · kernel_rfl
          · kernel_rfl
          · exact fun _ _ _ _ h => h
          apply Exists.intro
          apply And.intro
          · apply yr_run; rfl; intro w' hw'; go_simp; (try with_reducible rfl)
          simp only [Act.put, List.setIfInBounds_toArray, List.set_cons_zero, List.set_cons_succ]
          apply wpR_next 6 (some 74)
          · simp only [List.getElem?_toArray, List.getElem?_cons_succ, List.getElem?_cons_zero]; exact rfl
          · rfl
          · kernel_rfl
          · kernel_rfl
          · kernel_rfl
          · exact fun _ _ _ _ h => h
          apply Exists.intro
          apply And.intro
          · apply yr_run; rfl; intro w' hw'; go_simp; (try with_reducible rfl)
          simp only [Act.put, List.setIfInBounds_toArray, List.set_cons_zero, List.set_cons_succ]
          apply wpR_next 7 (some 75)
          · simp only [List.getElem?_toArray, List.getElem?_cons_succ, List.getElem?_cons_zero]; exact rfl
          · rfl
          · kernel_rfl
          · kernel_rfl
          · kernel_rfl
          · exact fun _ _ _ _ h => h
          apply Exists.intro
          apply And.intro
          · apply yr_run; rfl; intro w' hw'; go_simp; (try with_reducible rfl)
          simp only [Act.put, List.setIfInBounds_toArray, List.set_cons_zero, List.set_cons_succ]
          apply wpR_next 8 (some 76)
          · simp only [List.getElem?_toArray, List.getElem?_cons_succ, List.getElem?_cons_zero]; exact rfl
          · rfl
          · kernel_rfl
          · kernel_rfl
          · kernel_rfl
          · exact fun _ _ _ _ h => h
          apply Exists.intro
          apply And.intro
          · apply yr_run; rfl; intro w' hw'; go_simp; (try with_reducible rfl)
          simp only [Act.put, List.setIfInBounds_toArray, List.set_cons_zero, List.set_cons_succ]
          apply wpR_next 9 (some 77)
          · simp only [List.getElem?_toArray, List.getElem?_cons_succ, List.getElem?_cons_zero]; exact rfl
          · rfl
          · kernel_rfl
          · kernel_rfl
          · kernel_rfl
          · exact fun _ _ _ _ h => h
          apply Exists.intro
          apply And.intro
          · apply yr_run; rfl; intro w' hw'; go_simp; (try with_reducible rfl)
          simp only [Act.put, List.setIfInBounds_toArray, List.set_cons_zero, List.set_cons_succ]
          apply wpR_next 10 (some 78)
          · simp only [List.getElem?_toArray, List.getElem?_cons_succ, List.getElem?_cons_zero]; exact rfl
          · rfl
          · kernel_rfl
          · kernel_rfl
          · kernel_rfl
          · exact fun _ _ _ _ h => h
          apply Exists.intro
          apply And.intro
          · apply yr_run; rfl; intro w' hw'; go_simp; (try with_reducible rfl)
          simp only [Act.put, List.setIfInBounds_toArray, List.set_cons_zero, List.set_cons_succ]
          apply wpR_call 11 (some 79)
          · simp only [List.getElem?_toArray, List.getElem?_cons_succ, List.getElem?_cons_zero]; exact rfl
          · rfl
          · kernel_rfl
          · rfl
          · intro w'; go_simp; first | done | exact ⟨rfl, rfl⟩ | with_reducible rfl
          intro w' hw'
          refine (nt_turn w' (HN.out.below (Ext.trans (Below.drew (Below.refl _ _)) hw')) Hs.out i a).mono ?_
          rintro e w'' ⟨rfl, go1, A1, c1, es1, hN, hG⟩
          refine ⟨_, rfl, hG.k, ?_⟩
          have HN1 := Lib.hid hN
          have HG1 := Lib.hid ((NtGo.below (S := NtT g t go (wayB A)) (Ext.trans (Below.drew (Below.refl _ _)) hw')).trans hG)
          clear hN hG hw'
          simp only [Act.put, List.setIfInBounds_toArray, List.set_cons_zero, List.set_cons_succ]
          refine wpR_done (by kernel_rfl) ?_ _
          intro w2 hw2
          have hN := HN1.out.below hw2
          have hG := HG1.out.trans (NtGo.below hw2)
          clear hw2 HN1 HG1
          have HN2 := Lib.hid hN
          have HB2 := Lib.hid (HB.out.trans (hG.k.below HB.out.size (fun i hi e => by have := (HN.out.lt i e).1; omega)))
          clear hN hG
          go_wp2_with fail
          go_meet
          refine ⟨go1, A1, c1, es1, opN s ((k, i, a), (Af, nf, cf), Fs), ?_, HB2.out, opN_ok (o := ((k, i, a), (Af, nf, cf), Fs)) Hs.out HBy.out, opN_small (o := ((k, i, a), (Af, nf, cf), Fs)) HT2.out (by omega)⟩
          rw [HOP.out]
          exact HN2.out
        · have HOP : RowKit.Hid (opN s ((k, i, a), (Af, nf, cf), Fs) = s) := Lib.hid (by
            unfold opN
            show (match kd k with | 3 => _ | 4 => _ | 5 => _ | 6 => _ | 7 => _ | _ => _) = _
            rw [show kd k = 7 from hk]
            rfl)
          have q3 : (kz == 3) = false := by have h1 := Gkz.out; rw [beq_eq_false_iff_ne]; omega
          have q4 : (kz == 4) = false := by have h1 := Gkz.out; rw [beq_eq_false_iff_ne]; omega
          have q5 : (kz == 5) = false := by have h1 := Gkz.out; rw [beq_eq_false_iff_ne]; omega
          have q6 : (kz == 6) = false := by have h1 := Gkz.out; rw [beq_eq_false_iff_ne]; omega
          have q7 : (kz == 7) = true := by have h1 := Gkz.out; rw [beq_iff_eq]; omega
          clear hk
          have HC := Lib.hid (nt_at wr HN.out Hs.out i)
          go_wp2_with fail
          refine HC.out.mono ?_
          rintro e w2 ⟨A2, c2, rfl, -, -, hb2⟩
          have hN := HN.out.below hb2
          have hG := NtGo.below (S := NtT g t go (wayB A)) hb2
          have HN2 := Lib.hid hN
          have HB2 := Lib.hid (HB.out.trans (hG.k.below HB.out.size (fun i hi e => by have := (HN.out.lt i e).1; omega)))
          clear hN hG HC
          go_wp2_with fail
          go_meet
          refine ⟨go, A, c, es, opN s ((k, i, a), (Af, nf, cf), Fs), ?_, HB2.out, opN_ok (o := ((k, i, a), (Af, nf, cf), Fs)) Hs.out HBy.out, opN_small (o := ((k, i, a), (Af, nf, cf), Fs)) HT2.out (by omega)⟩
          rw [HOP.out]
          exact HN2.out
      case rest =>
        clear hin hP hpl hbB hx
        obtain ⟨go, A, c, es, s, hN, hb, hs, hsm⟩ := hcut
        have HTl := Lib.hid (nt_tally g A s.1.length c t go s.2 wc hN.box hN.tal)
        have HN := Lib.hid hN
        have HB := Lib.hid hb
        have Hs := Lib.hid hs
        have HT2 := Lib.hid hsm
        clear hN hb hs hsm
        go_wp2_with fail
        refine HTl.out.mono ?_
        rintro e w5 ⟨hb, rfl, hhb, hWh, go9, hT9, hS9⟩
        obtain ⟨hN5, hG5⟩ := HN.out.tally hT9 hS9
        have HN5 := Lib.hid hN5
        have HB5 := Lib.hid (HB.out.trans (HN.out.far hG5 HB.out.size))
        have hsix := Hs.out.six
        have hsum := Hs.out.sum
        have hmax := Hs.out.max
        have hbd := hT9.bd
        obtain ⟨T0, T1, T2, T3, T4, T5, hT⟩ := six_is hsix
        rw [hT] at hWh hsum hbd
        have hb0 := hbd T0 (by simp)
        have hb2 := hbd T2 (by simp)
        have hb3 := hbd T3 (by simp)
        have hb4 := hbd T4 (by simp)
        have hb5 := hbd T5 (by simp)
        simp only [List.getD_cons_zero, List.getD_cons_succ] at hsum
        rw [hsix]
        obtain ⟨N, gN⟩ : ∃ z, s.1.length = z := ⟨_, rfl⟩
        have HL : RowKit.Hid (∀ w', Kept Nil_ w5.drew w' → Calls Try.prog 14 #[.pointer (some ⟨g, 0, none⟩)] w' fun e w'' => e = .returned (.int .i64 (N : Int)) ∧ Below w'.heap.size w' w'') := Lib.hid (fun w' hk => by
          rw [← gN]
          exact (nt_len g A s.1.length c t w' (hk.whole (HN5.out.below ((Below.refl _ _).drew)).box (fun q => q))).mono fun e w'' ⟨h1, h2⟩ => ⟨h1, h2 ▸ Below.refl _ _⟩)
        rw [gN] at hsum hmax
        have hw1 : IntKind.i64.wrap (T0 + T5) = T0 + T5 := IntWalk.i64_in _ (by omega)
        have hw2 : IntKind.i64.wrap ((N : Int) + T2) = (N : Int) + T2 := IntWalk.i64_in _ (by omega)
        have hw3 : IntKind.i64.wrap ((N : Int) + T2 + T3) = (N : Int) + T2 + T3 := IntWalk.i64_in _ (by omega)
        have hw4 : IntKind.i64.wrap ((N : Int) + T2 + T3 + T4) = (N : Int) + T2 + T3 + T4 := IntWalk.i64_in _ (by omega)
        have he1 : (T0 + T5 == (N : Int) + T2 + T3 + T4) = true := by rw [beq_iff_eq]; omega
        have he0 : (T0 + T5 != (N : Int) + T2 + T3 + T4) = false := by rw [bne_eq_false_iff_eq]; omega
        have he2 : decide ((4096 : Int) < (N : Int)) = false := decide_eq_false (by omega)
        have he3 : decide ((N : Int) < 0) = false := decide_eq_false (by omega)
        have hWd := hWh.drew
        have ld0 : ∀ w', Kept Nil_ w5.drew w' → w'.cell? ⟨hb, 0, none⟩ = some (.int .i64 T0) := fun w' hk => hk.nil_cell (hWd.cell (i := 0) rfl)
        have ld2 : ∀ w', Kept Nil_ w5.drew w' → w'.cell? ⟨hb, 2, none⟩ = some (.int .i64 T2) := fun w' hk => hk.nil_cell (hWd.cell (i := 2) rfl)
        have ld3 : ∀ w', Kept Nil_ w5.drew w' → w'.cell? ⟨hb, 3, none⟩ = some (.int .i64 T3) := fun w' hk => hk.nil_cell (hWd.cell (i := 3) rfl)
        have ld4 : ∀ w', Kept Nil_ w5.drew w' → w'.cell? ⟨hb, 4, none⟩ = some (.int .i64 T4) := fun w' hk => hk.nil_cell (hWd.cell (i := 4) rfl)
        have ld5 : ∀ w', Kept Nil_ w5.drew w' → w'.cell? ⟨hb, 5, none⟩ = some (.int .i64 T5) := fun w' hk => hk.nil_cell (hWd.cell (i := 5) rfl)
        clear hN5 hG5 hsix hsum hmax hbd hT hb0 hb2 hb3 hb4 hb5 gN hWd hWh hT9 hS9 hhb HTl HN HB
        go_upto_region 21 with fail
        refine wp_region_reg (Nil_) (by kernel_rfl) ?_
        apply wpR_next 0 (some 91)
        · simp only [List.getElem?_toArray, List.getElem?_cons_succ, List.getElem?_cons_zero]; exact rfl
        · rfl
        · kernel_rfl
        · kernel_rfl
        · kernel_rfl
        · exact fun _ _ _ _ h => h
        apply Exists.intro
        apply And.intro
        · apply yr_run; rfl; intro w' hw'; go_simp; (try with_reducible rfl)
        simp only [Act.put, List.setIfInBounds_toArray, List.set_cons_zero, List.set_cons_succ]
        apply wpR_next 1 (some 92)
        · simp only [List.getElem?_toArray, List.getElem?_cons_succ, List.getElem?_cons_zero]; exact rfl
        · rfl
        · kernel_rfl
        · kernel_rfl
        · kernel_rfl
        · exact fun _ _ _ _ h => h
        apply Exists.intro
        apply And.intro
        · apply yr_run; rfl; intro w' hw'; go_simp; (try with_reducible rfl)
        simp only [Act.put, List.setIfInBounds_toArray, List.set_cons_zero, List.set_cons_succ]
        apply wpR_next 2 (some 93)
        · simp only [List.getElem?_toArray, List.getElem?_cons_succ, List.getElem?_cons_zero]; exact rfl
        · rfl
        · kernel_rfl
        · kernel_rfl
        · kernel_rfl
        · exact fun _ _ _ _ h => h
        apply Exists.intro
        apply And.intro
        · apply yr_run; rfl; intro w' hw'; go_simp; (try with_reducible rfl)
        simp only [Act.put, List.setIfInBounds_toArray, List.set_cons_zero, List.set_cons_succ]
        apply wpR_next 3 (some 94)
        · simp only [List.getElem?_toArray, List.getElem?_cons_succ, List.getElem?_cons_zero]; exact rfl
        · rfl
        · kernel_rfl
        · kernel_rfl
        · kernel_rfl
        · exact fun _ _ _ _ h => h
        apply Exists.intro
        apply And.intro
        · apply yr_run; rfl; intro w' hw'; go_simp; (try with_reducible rfl)
        simp only [Act.put, List.setIfInBounds_toArray, List.set_cons_zero, List.set_cons_succ]
        apply wpR_next 4 (some 95)
        · simp only [List.getElem?_toArray, List.getElem?_cons_succ, List.getElem?_cons_zero]; exact rfl
        · rfl
        · kernel_rfl
        · kernel_rfl
        · kernel_rfl
        · exact fun _ _ _ _ h => h
        apply Exists.intro
        apply And.intro
        · apply yr_run; rfl; intro w' hw'; go_simp; (try with_reducible rfl)
        simp only [Act.put, List.setIfInBounds_toArray, List.set_cons_zero, List.set_cons_succ]
        apply wpR_next 5 (some 96)
        · simp only [List.getElem?_toArray, List.getElem?_cons_succ, List.getElem?_cons_zero]; exact rfl
        · rfl
        · kernel_rfl
        · kernel_rfl
        · kernel_rfl
        · exact fun _ _ _ _ h => h
        apply Exists.intro
        apply And.intro
        · apply yr_run; rfl; intro w' hw'; go_simp; (try with_reducible rfl)
        simp only [Act.put, List.setIfInBounds_toArray, List.set_cons_zero, List.set_cons_succ]
        apply wpR_next 6 (some 97)
        · simp only [List.getElem?_toArray, List.getElem?_cons_succ, List.getElem?_cons_zero]; exact rfl
        · rfl
        · kernel_rfl
        · kernel_rfl
        · kernel_rfl
        · exact fun _ _ _ _ h => h
        apply Exists.intro
        apply And.intro
        · apply yr_run; rfl; intro w' hw'; go_simp; (try with_reducible rfl)
        simp only [Act.put, List.setIfInBounds_toArray, List.set_cons_zero, List.set_cons_succ]
        apply wpR_next 7 (some 98)
        · simp only [List.getElem?_toArray, List.getElem?_cons_succ, List.getElem?_cons_zero]; exact rfl
        · rfl
        · kernel_rfl
        · kernel_rfl
        · kernel_rfl
        · exact fun _ _ _ _ h => h
        apply Exists.intro
        apply And.intro
        · apply yr_run; rfl; intro w' hw'; go_simp; (try with_reducible rfl)
        simp only [Act.put, List.setIfInBounds_toArray, List.set_cons_zero, List.set_cons_succ]
        apply wpR_next 8 (some 99)
        · simp only [List.getElem?_toArray, List.getElem?_cons_succ, List.getElem?_cons_zero]; exact rfl
        · rfl
        · kernel_rfl
        · kernel_rfl
        · kernel_rfl
        · exact fun _ _ _ _ h => h
        apply Exists.intro
        apply And.intro
        · apply yr_run; rfl; intro w' hw'; go_simp; (try with_reducible rfl)
        simp only [Act.put, List.setIfInBounds_toArray, List.set_cons_zero, List.set_cons_succ]
        apply wpR_next 9 (some 100)
        · simp only [List.getElem?_toArray, List.getElem?_cons_succ, List.getElem?_cons_zero]; exact rfl
        · rfl
        · kernel_rfl
        · kernel_rfl
        · kernel_rfl
        · exact fun _ _ _ _ h => h
        apply Exists.intro
        apply And.intro
        · apply yr_run; rfl; intro w' hw'; go_simp; (try with_reducible rfl)
        simp only [Act.put, List.setIfInBounds_toArray, List.set_cons_zero, List.set_cons_succ]
        apply wpR_next 10 (some 101)
        · simp only [List.getElem?_toArray, List.getElem?_cons_succ, List.getElem?_cons_zero]; exact rfl
        · rfl
        · kernel_rfl
        · kernel_rfl
        · kernel_rfl
        · exact fun _ _ _ _ h => h
        apply Exists.intro
        apply And.intro
        · apply yr_run; rfl; intro w' hw'; go_simp; (try with_reducible rfl)
        simp only [Act.put, List.setIfInBounds_toArray, List.set_cons_zero, List.set_cons_succ]
        apply wpR_next 11 (some 102)
        · simp only [List.getElem?_toArray, List.getElem?_cons_succ, List.getElem?_cons_zero]; exact rfl
        · rfl
        · kernel_rfl
        · kernel_rfl
        · kernel_rfl
        · exact fun _ _ _ _ h => h
        apply Exists.intro
        apply And.intro
        · apply yr_run; rfl; intro w' hw'; go_simp; (try with_reducible rfl)
        simp only [Act.put, List.setIfInBounds_toArray, List.set_cons_zero, List.set_cons_succ]
        apply wpR_next 12 (some 103)
        · simp only [List.getElem?_toArray, List.getElem?_cons_succ, List.getElem?_cons_zero]; exact rfl
        · rfl
        · kernel_rfl
        · kernel_rfl
        · kernel_rfl
        · exact fun _ _ _ _ h => h
        apply Exists.intro
        apply And.intro
        · apply yr_call; rfl; rotate_left; intro w' hw'; exact HL.out w' hw'; intro w'; go_simp
        simp only [Act.put, List.setIfInBounds_toArray, List.set_cons_zero, List.set_cons_succ]
        apply wpR_next 13 (some 104)
        · simp only [List.getElem?_toArray, List.getElem?_cons_succ, List.getElem?_cons_zero]; exact rfl
        · rfl
        · kernel_rfl
        · kernel_rfl
        · kernel_rfl
        · exact fun _ _ _ _ h => h
        apply Exists.intro
        apply And.intro
        · apply yr_run; rfl; intro w' hw'; go_simp; (try with_reducible rfl)
        simp only [Act.put, List.setIfInBounds_toArray, List.set_cons_zero, List.set_cons_succ]
        apply wpR_next 14 (some 105)
        · simp only [List.getElem?_toArray, List.getElem?_cons_succ, List.getElem?_cons_zero]; exact rfl
        · rfl
        · kernel_rfl
        · kernel_rfl
        · kernel_rfl
        · exact fun _ _ _ _ h => h
        apply Exists.intro
        apply And.intro
        · apply yr_run; rfl; intro w' hw'; go_simp; (try with_reducible rfl)
        simp only [Act.put, List.setIfInBounds_toArray, List.set_cons_zero, List.set_cons_succ]
        apply wpR_next 15 (some 106)
        · simp only [List.getElem?_toArray, List.getElem?_cons_succ, List.getElem?_cons_zero]; exact rfl
        · rfl
        · kernel_rfl
        · kernel_rfl
        · kernel_rfl
        · exact fun _ _ _ _ h => h
        apply Exists.intro
        apply And.intro
        · apply yr_run; rfl; intro w' hw'; go_simp; (try with_reducible rfl)
        simp only [Act.put, List.setIfInBounds_toArray, List.set_cons_zero, List.set_cons_succ]
        apply wpR_next 16 (some 107)
        · simp only [List.getElem?_toArray, List.getElem?_cons_succ, List.getElem?_cons_zero]; exact rfl
        · rfl
        · kernel_rfl
        · kernel_rfl
        · kernel_rfl
        · exact fun _ _ _ _ h => h
        apply Exists.intro
        apply And.intro
        · apply yr_run; rfl; intro w' hw'; go_simp; (try with_reducible rfl)
        simp only [Act.put, List.setIfInBounds_toArray, List.set_cons_zero, List.set_cons_succ]
        apply wpR_next 17 (some 108)
        · simp only [List.getElem?_toArray, List.getElem?_cons_succ, List.getElem?_cons_zero]; exact rfl
        · rfl
        · kernel_rfl
        · kernel_rfl
        · kernel_rfl
        · exact fun _ _ _ _ h => h
        apply Exists.intro
        apply And.intro
        · apply yr_run; rfl; intro w' hw'; go_simp; (try with_reducible rfl)
        simp only [Act.put, List.setIfInBounds_toArray, List.set_cons_zero, List.set_cons_succ]
        apply wpR_next 18 (some 109)
        · simp only [List.getElem?_toArray, List.getElem?_cons_succ, List.getElem?_cons_zero]; exact rfl
        · rfl
        · kernel_rfl
        · kernel_rfl
        · kernel_rfl
        · exact fun _ _ _ _ h => h
        apply Exists.intro
        apply And.intro
        · apply yr_run; rfl; intro w' hw'; go_simp; (try with_reducible rfl)
        simp only [Act.put, List.setIfInBounds_toArray, List.set_cons_zero, List.set_cons_succ]
        apply wpR_next 19 (some 110)
        · simp only [List.getElem?_toArray, List.getElem?_cons_succ, List.getElem?_cons_zero]; exact rfl
        · rfl
        · kernel_rfl
        · kernel_rfl
        · kernel_rfl
        · exact fun _ _ _ _ h => h
        apply Exists.intro
        apply And.intro
        · apply yr_run; rfl; intro w' hw'; go_simp; (try with_reducible rfl)
        simp only [Act.put, List.setIfInBounds_toArray, List.set_cons_zero, List.set_cons_succ]
        apply wpR_next 20 (some 111)
        · simp only [List.getElem?_toArray, List.getElem?_cons_succ, List.getElem?_cons_zero]; exact rfl
        · rfl
        · kernel_rfl
        · kernel_rfl
        · kernel_rfl
        · exact fun _ _ _ _ h => h
        apply Exists.intro
        apply And.intro
        · apply yr_run; rfl; intro w' hw'; go_simp; (try with_reducible rfl)
        simp only [Act.put, List.setIfInBounds_toArray, List.set_cons_zero, List.set_cons_succ]
        apply wpR_next 21 (some 112)
        · simp only [List.getElem?_toArray, List.getElem?_cons_succ, List.getElem?_cons_zero]; exact rfl
        · rfl
        · kernel_rfl
        · kernel_rfl
        · kernel_rfl
        · exact fun _ _ _ _ h => h
        apply Exists.intro
        apply And.intro
        · apply yr_run; rfl; intro w' hw'; go_simp; (try with_reducible rfl)
        simp only [Act.put, List.setIfInBounds_toArray, List.set_cons_zero, List.set_cons_succ]
        apply wpR_next 22 (some 113)
        · simp only [List.getElem?_toArray, List.getElem?_cons_succ, List.getElem?_cons_zero]; exact rfl
        · rfl
        · kernel_rfl
        · kernel_rfl
        · kernel_rfl
        · exact fun _ _ _ _ h => h
        apply Exists.intro
        apply And.intro
        · apply yr_run; rfl; intro w' hw'; go_simp; (try with_reducible rfl)
        simp only [Act.put, List.setIfInBounds_toArray, List.set_cons_zero, List.set_cons_succ]
        apply wpR_next 23 (some 114)
        · simp only [List.getElem?_toArray, List.getElem?_cons_succ, List.getElem?_cons_zero]; exact rfl
        · rfl
        · kernel_rfl
        · kernel_rfl
        · kernel_rfl
        · exact fun _ _ _ _ h => h
        apply Exists.intro
        apply And.intro
        · apply yr_run; rfl; intro w' hw'; go_simp; (try with_reducible rfl)
        simp only [Act.put, List.setIfInBounds_toArray, List.set_cons_zero, List.set_cons_succ]
        apply wpR_next 24 (some 115)
        · simp only [List.getElem?_toArray, List.getElem?_cons_succ, List.getElem?_cons_zero]; exact rfl
        · rfl
        · kernel_rfl
        · kernel_rfl
        · kernel_rfl
        · exact fun _ _ _ _ h => h
        apply Exists.intro
        apply And.intro
        · apply yr_run; rfl; intro w' hw'; go_simp; (try with_reducible rfl)
        simp only [Act.put, List.setIfInBounds_toArray, List.set_cons_zero, List.set_cons_succ]
        apply wpR_next 25 (some 116)
        · simp only [List.getElem?_toArray, List.getElem?_cons_succ, List.getElem?_cons_zero]; exact rfl
        · rfl
        · kernel_rfl
        · kernel_rfl
        · kernel_rfl
        · exact fun _ _ _ _ h => h
        apply Exists.intro
        apply And.intro
        · apply yr_run; rfl; intro w' hw'; go_simp; (try with_reducible rfl)
        simp only [Act.put, List.setIfInBounds_toArray, List.set_cons_zero, List.set_cons_succ]
        apply wpR_next 26 (some 117)
        · simp only [List.getElem?_toArray, List.getElem?_cons_succ, List.getElem?_cons_zero]; exact rfl
        · rfl
        · kernel_rfl
        · kernel_rfl
        · kernel_rfl
        · exact fun _ _ _ _ h => h
        apply Exists.intro
        apply And.intro
        · apply yr_run; rfl; intro w' hw'; go_simp; (try with_reducible rfl)
        simp only [Act.put, List.setIfInBounds_toArray, List.set_cons_zero, List.set_cons_succ]
        apply wpR_next 27 (some 118)
        · simp only [List.getElem?_toArray, List.getElem?_cons_succ, List.getElem?_cons_zero]; exact rfl
        · rfl
        · kernel_rfl
        · kernel_rfl
        · kernel_rfl
        · exact fun _ _ _ _ h => h
        apply Exists.intro
        apply And.intro
        · apply yr_run; rfl; intro w' hw'; go_simp; (try with_reducible rfl)
        simp only [Act.put, List.setIfInBounds_toArray, List.set_cons_zero, List.set_cons_succ]
        apply wpR_next 28 (some 119)
        · simp only [List.getElem?_toArray, List.getElem?_cons_succ, List.getElem?_cons_zero]; exact rfl
        · rfl
        · kernel_rfl
        · kernel_rfl
        · kernel_rfl
        · exact fun _ _ _ _ h => h
        apply Exists.intro
        apply And.intro
        · apply yr_run; rfl; intro w' hw'; go_simp; (try with_reducible rfl)
        simp only [Act.put, List.setIfInBounds_toArray, List.set_cons_zero, List.set_cons_succ]
        apply wpR_next 29 (some 120)
        · simp only [List.getElem?_toArray, List.getElem?_cons_succ, List.getElem?_cons_zero]; exact rfl
        · rfl
        · kernel_rfl
        · kernel_rfl
        · kernel_rfl
        · exact fun _ _ _ _ h => h
        apply Exists.intro
        apply And.intro
        · apply yr_call; rfl; rotate_left; intro w' hw'; exact HL.out w' hw'; intro w'; go_simp
        simp only [Act.put, List.setIfInBounds_toArray, List.set_cons_zero, List.set_cons_succ]
        apply wpR_next 30 (some 121)
        · simp only [List.getElem?_toArray, List.getElem?_cons_succ, List.getElem?_cons_zero]; exact rfl
        · rfl
        · kernel_rfl
        · kernel_rfl
        · kernel_rfl
        · exact fun _ _ _ _ h => h
        apply Exists.intro
        apply And.intro
        · apply yr_run; rfl; intro w' hw'; go_simp; (try with_reducible rfl)
        simp only [Act.put, List.setIfInBounds_toArray, List.set_cons_zero, List.set_cons_succ]
        apply wpR_next 31 (some 122)
        · simp only [List.getElem?_toArray, List.getElem?_cons_succ, List.getElem?_cons_zero]; exact rfl
        · rfl
        · kernel_rfl
        · kernel_rfl
        · kernel_rfl
        · exact fun _ _ _ _ h => h
        apply Exists.intro
        apply And.intro
        · apply yr_run; rfl; intro w' hw'; go_simp; (try with_reducible rfl)
        simp only [Act.put, List.setIfInBounds_toArray, List.set_cons_zero, List.set_cons_succ]
        apply wpR_next 32 (some 123)
        · simp only [List.getElem?_toArray, List.getElem?_cons_succ, List.getElem?_cons_zero]; exact rfl
        · rfl
        · kernel_rfl
        · kernel_rfl
        · kernel_rfl
        · exact fun _ _ _ _ h => h
        apply Exists.intro
        apply And.intro
        · apply yr_run; rfl; intro w' hw'; go_simp; (try with_reducible rfl)
        simp only [Act.put, List.setIfInBounds_toArray, List.set_cons_zero, List.set_cons_succ]
        apply wpR_next 33 (some 124)
        · simp only [List.getElem?_toArray, List.getElem?_cons_succ, List.getElem?_cons_zero]; exact rfl
        · rfl
        · kernel_rfl
        · kernel_rfl
        · kernel_rfl
        · exact fun _ _ _ _ h => h
        apply Exists.intro
        apply And.intro
        · apply yr_run; rfl; intro w' hw'; go_simp; (try with_reducible rfl)
        simp only [Act.put, List.setIfInBounds_toArray, List.set_cons_zero, List.set_cons_succ]
        apply wpR_next 34 (some 125)
        · simp only [List.getElem?_toArray, List.getElem?_cons_succ, List.getElem?_cons_zero]; exact rfl
        · rfl
        · kernel_rfl
        · kernel_rfl
        · kernel_rfl
        · exact fun _ _ _ _ h => h
        apply Exists.intro
        apply And.intro
        · apply yr_call; rfl; rotate_left; intro w' hw'; exact HL.out w' hw'; intro w'; go_simp
        simp only [Act.put, List.setIfInBounds_toArray, List.set_cons_zero, List.set_cons_succ]
        apply wpR_next 35 (some 126)
        · simp only [List.getElem?_toArray, List.getElem?_cons_succ, List.getElem?_cons_zero]; exact rfl
        · rfl
        · kernel_rfl
        · kernel_rfl
        · kernel_rfl
        · exact fun _ _ _ _ h => h
        apply Exists.intro
        apply And.intro
        · apply yr_run; rfl; intro w' hw'; go_simp; (try with_reducible rfl)
        simp only [Act.put, List.setIfInBounds_toArray, List.set_cons_zero, List.set_cons_succ]
        apply wpR_next 36 (some 127)
        · simp only [List.getElem?_toArray, List.getElem?_cons_succ, List.getElem?_cons_zero]; exact rfl
        · rfl
        · kernel_rfl
        · kernel_rfl
        · kernel_rfl
        · exact fun _ _ _ _ h => h
        apply Exists.intro
        apply And.intro
        · apply yr_run; rfl; intro w' hw'; go_simp; (try with_reducible rfl)
        simp only [Act.put, List.setIfInBounds_toArray, List.set_cons_zero, List.set_cons_succ]
        refine wpR_done (by kernel_rfl) ?_ _
        intro W6 hw6
        have HN6 := Lib.hid (HN5.out.below ((Below.refl w5.heap.size w5).drew.trans hw6))
        have HB6 := Lib.hid (bel_bl HB5.out ((Below.refl w5.heap.size w5).drew.trans hw6))
        clear hw6 ld0 ld2 ld3 ld4 ld5 HL HN5 HB5 hw1 hw2 hw3 hw4 he0 he1 he2 he3
        go_wp2
        go_roundw
        case rel =>
          refine ⟨j + 1, by omega, by omega, by go_num, Lib.hid ⟨go9, A, c, es, s, HN6.out, HB6.out, Hs.out, fun x hx => by have := HT2.out x hx; omega⟩⟩
        case measure => simp [intOf]; omega
    · have h9 : ¬ ((j : Int) < (n : Int) ∧ (j : Int) < 80) := fun q => hlt ⟨by omega, by omega⟩
      obtain ⟨go, A2, c2, es, s, hN, hb, hs, hsm⟩ := hin.out
      have HB := Lib.hid hb
      clear hN hb hs hsm hin
      by_cases hkn2 : (j : Int) < (n : Int)
      · have hk6b : decide ((j : Int) < 80) = false := decide_eq_false (fun q => h9 ⟨hkn2, q⟩)
        clear h9 hlt
        go_wp2
        go_ret
        exact ⟨rfl, HB.out⟩
      · have hk6b : decide ((j : Int) < (n : Int)) = false := decide_eq_false hkn2
        clear h9 hlt
        go_wp2
        go_ret
        exact ⟨rfl, HB.out⟩
end Go.Proofs.Ytibbibpfnpjjdaa

/- 'NetCounts' answers true for any calls.
   No condition beyond the row's own. -/
namespace Go.Proofs.Ytibbibpfnpjjdaa
open Go.ChangeShapes Go.WideShapes Go.ChangeAt Go.RowKit
namespace lawNetCounts

set_option maxRecDepth 100000 in
theorem contract (H : Type) (enc : TypeId × Value → H) (W : World) (base : Nat) (args : Array Value) (ds gs : List (DataW H)) (before : List MemPlace)
    (hval : ∀ (j : Nat) t v, Try.f4.params[j]? = some t → args[j]? = some v → Value.okWide Try.prog W .any base t v)
    (hW : DataW.Whole enc Try.prog Try.f4.params.toList Rows.netCountsSpec.vars false W args.toList ds gs before) :
    Calls Try.prog 4 args W fun e W' => ∃ v, e = .returned v ∧ Rows.netCountsSpec.post enc Try.prog Try.f4 false true false false W args v W' := by
  have hW' := hW
  obtain ⟨p, q, hA, hV, rfl, hfz, hnd⟩ := hW
  obtain ⟨rfl, rfl⟩ := trodVars_none hV
  rw [Try.params4] at hA hval
  obtain ⟨v0, d0, rfl, rfl, h0⟩ := trodAll_one hA
  obtain ⟨a, rfl, hx0⟩ := open_row1_slice (row1_opn H) Try.underlying22 (by kernel_rfl) rawC_len (by decide) (hval 0 22 v0 rfl rfl) h0
  refine (law_counts a.1 a.2.1 a.2.2.1 (a.2.2.2.map opOf) W (by rw [← rows_op]; exact hx0.2.1) (fun o ho => by obtain ⟨z, hz, rfl⟩ := List.mem_map.1 ho; exact op_ok (hx0.2.2 z hz))).mono fun e W' ⟨he, hb⟩ => ⟨_, he, ?_⟩
  exact law_post Try.laidOut (by kernel_rfl) (tb := 4) (by kernel_rfl) Try.underlying4 rfl ⟨rfl, rfl, rfl⟩ hW' hb

set_option maxRecDepth 100000 in
theorem lifted (os : Os) (started : os.Started) (H : Type) (enc : TypeId × Value → H) :
    ReturnsInHanded {} Try.checked os 4 .any (Rows.netCountsSpec.pre6 enc Try.prog Try.f4 Rows.netCountsRow.domain false) (Rows.netCountsSpec.post enc Try.prog Try.f4 false true false false) := by
  refine returnsInHanded_of_change (C := Try.checked) Try.own started (by kernel_rfl) Try.func4
    (ChangeSpec.witness6 (enc := enc) (C := Try.checked) false ⟨#[], #[.slice none 0 0], []⟩ 8 (by kernel_rfl) (by kernel_rfl) (by kernel_rfl) (by kernel_rfl)) ?_
  intro W base args ds gs before hval hW _ _
  exact contract H enc W base args ds gs before hval hW

theorem proved : Rows.NetCountsSaid :=
  OpenClaim.holds_of_wide 4 Try.f4 rfl rfl rfl rfl rfl rfl rfl ⟨rfl, rfl, rfl, rfl, rfl⟩ rfl rfl rfl rfl rfl (by kernel_rfl) Try.func4 (by kernel_rfl)
    (of_decide_eq_true (by kernel_rfl)) (by unfold Func.isWrapper; first | (rw [if_pos (by decide +kernel)]; kernel_rfl) | (rw [if_neg (by decide +kernel)]; exact ⟨rfl, rfl⟩))
    (fun os started H enc _ => lifted os started H enc)
end lawNetCounts
end Go.Proofs.Ytibbibpfnpjjdaa
