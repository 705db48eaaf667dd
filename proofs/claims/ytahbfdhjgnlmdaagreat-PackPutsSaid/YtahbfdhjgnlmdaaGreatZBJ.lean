/- Several texts in one. -/
import Derived.Test.YtahbfdhjgnlmdaaGreatZBI
import Derived.Test.YtahbfdhjgnlmdaaGreatZBC
import Derived.Test.YtahbfdhjgnlmdaaGreatZBE
import Derived.Test.YtahbfdhjgnlmdaaGreatZBA
import Derived.Test.YtahbfdhjgnlmdaaGreatZBG
import Derived.Test.YtahbfdhjgnlmdaaGreatZBB
import Derived.Laws.CopyOwn
import Derived.LoopTactic
import Derived.Lib.AppendStr
import Derived.Laws.BitsAllLaws
import Derived.Test.YtahbfdhjgnlmdaaGreatZBF

/- Counts of layer 7. -/
namespace Go.Proofs.YtahbfdhjgnlmdaaGreat
open Go.RowKit
set_option linter.unusedSimpArgs false
set_option linter.unusedVariables false

set_option maxRecDepth 100000 in
set_option maxHeartbeats 4000000 in
theorem rcnt_any (A : Option Addr) (n c : Nat) (Vs : List VC) (B : Option Addr) (m k : Nat) (Es : List EC) (F C : Nat) (w : World) (h : DgIn w A n c Vs B m k Es) (hn : n ≤ 1000000) (hm : m ≤ 1000000) (hF : F ≤ 1000000) (hC : C ≤ 1000000) (HF : ∀ W, DgIn W A n c Vs B m k Es → Calls Tryz.prog 64 #[.agg #[.slice A n c, .slice B m k]] W fun e w' => ∃ A' c', e = .returned (.slice A' F c') ∧ Below W.heap.size W w') (HC : ∀ W, DgIn W A n c Vs B m k Es → Calls Tryz.prog 65 #[.agg #[.slice A n c, .slice B m k]] W fun e w' => e = .returned (.int .i64 ((C : Nat) : Int)) ∧ Below W.heap.size W w') :
    Calls Tryz.prog 42 #[.agg #[.slice A n c, .slice B m k]] w fun e w' => e = .returned (.tuple #[.int .i64 (n : Int), .int .i64 (m : Int), .int .i64 ((F + aloneN Vs : Nat) : Int), .int .i64 (C : Int)]) ∧ Below w.heap.size w w' := by
  have HDa := Lib.hid h
  have H := Lib.hid h.v
  have hr : ∀ v ∈ Vs, v.2.1.2.2.2.length = v.2.1.2.1 := fun v hv => (h.r v hv).2.dlen
  have Hr := Lib.hid hr
  have hl := h.v.rlen vC_len (by decide)
  have Hl := Lib.hid hl
  have HG : RowKit.Hid (aloneN Vs = ((Vs.take n).filter alB).length) := Lib.hid (by rw [List.take_of_length_le (by omega)]; rfl)
  obtain ⟨an, gan⟩ : ∃ z, aloneN Vs = z := ⟨_, rfl⟩
  rw [gan] at HG ⊢
  have HFf := Lib.hid HF
  have HCc := Lib.hid HC
  clear h hr hl gan HF HC
  go_enter Tryz.func42, Tryz.ntmps42
  have lw1 : ((w.alloc (.cells #[.slice A n c, .slice B m k] 25))).cell? ⟨w.heap.size, 0, none⟩ = some (.slice A n c) := (show Whole (w.alloc (.cells #[.slice A n c, .slice B m k] 25)) (w.heap.size) (25) ([.slice A n c, .slice B m k]) from Whole.new2 (by first | rfl | simp)).cell (i := 0) rfl
  have lw2 : ((w.alloc (.cells #[.slice A n c, .slice B m k] 25))).cell? ⟨w.heap.size, 1, none⟩ = some (.slice B m k) := (show Whole (w.alloc (.cells #[.slice A n c, .slice B m k] 25)) (w.heap.size) (25) ([.slice A n c, .slice B m k]) from Whole.new2 (by first | rfl | simp)).cell (i := 1) rfl
  go_wp2_with fail
  clear lw1 lw2
  refine (HFf.out _ (HDa.out.al (.cells #[.slice A n c, .slice B m k] 25))).mono ?_
  rintro e w3 ⟨A5, c5, rfl, hb3⟩
  have Da_4 := Lib.hid ((HDa.out.al (.cells #[.slice A n c, .slice B m k] 25)).bl hb3)
  have D0_4 := Lib.hid ((show Whole (w.alloc (.cells #[.slice A n c, .slice B m k] 25)) (w.heap.size) (25) ([.slice A n c, .slice B m k]) from Whole.new2 (by first | rfl | simp)).bl hb3)
  have Bel_4 := Lib.hid (bel_bl (bel_al (Below.refl _ w) (.cells #[.slice A n c, .slice B m k] 25)) hb3)
  clear HDa
  clear hb3
  have HD5 := Lib.hid (Da_4.out)
  have HX5 := Lib.hid (D0_4.out)
  have HB5 := Lib.hid (Bel_4.out)
  clear Da_4 D0_4 Bel_4
  go_wp2
  go_loopw [6, 7] (fun sn si wr => ∃ (j q : Nat), j ≤ n ∧ si = .int .i64 j ∧ sn = .int .i64 ((F + q : Nat) : Int) ∧ RowKit.Hid (wr = w3) ∧ RowKit.Hid (((Vs.take j).filter alB).length = q)) (fun _ si _ => n - (intOf si).toNat)
  case atStart => exact ⟨0, 0, by omega, rfl, rfl, by first | exact Lib.hid rfl | exact Lib.hid trivial, Lib.hid rfl⟩
  case round =>
    obtain ⟨j, q, hj, rfl, rfl, HW, HQ⟩ := hrel
    have hwr := HW.out.symm
    subst hwr
    have hqj : q ≤ j := by
      have h1 := List.length_filter_le alB (Vs.take j)
      rw [HQ.out, List.length_take] at h1
      omega
    have c0 := HX5.out.cell (i := 0) rfl
    by_cases hjn : j < n
    · obtain ⟨v, hx⟩ : ∃ v, Vs[j]? = some v := ⟨_, List.getElem?_eq_getElem (by have := Hl.out; omega)⟩
      have hnx := alone_next hx
      rw [HQ.out] at hnx
      have hbl := alB_len (Hr.out v (List.mem_of_getElem? hx))
      obtain ⟨b, gb⟩ : ∃ z, alB v = z := ⟨_, rfl⟩
      rw [gb] at hbl hnx
      obtain ⟨bb, off, rfl, hbB, hpl⟩ := H.out.place vC_len (by decide) (by omega)
      have hbw := HB5.out
      have q0 := hpl j _ hx 0 _ rfl
      have q1 := hpl j _ hx 1 _ rfl
      have q2 := hpl j _ hx 2 _ rfl
      have q3 := hpl j _ hx 3 _ rfl
      have q4 := hpl j _ hx 4 _ rfl
      simp only [Addr.add_lit, Nat.add_zero] at q0 q1 q2 q3 q4
      have l0 := (hbw.cell (p := ⟨bb, off + j * 5, none⟩) hbB).trans q0
      have l1 := (hbw.cell (p := ⟨bb, off + j * 5 + 1, none⟩) hbB).trans q1
      have l2 := (hbw.cell (p := ⟨bb, off + j * 5 + 2, none⟩) hbB).trans q2
      have l3 := (hbw.cell (p := ⟨bb, off + j * 5 + 3, none⟩) hbB).trans q3
      have l4 := (hbw.cell (p := ⟨bb, off + j * 5 + 4, none⟩) hbB).trans q4
      clear hbw q0 q1 q2 q3 q4
      obtain ⟨⟨i1, i2⟩, ⟨rA, rn, rc, rL⟩, lb, at_⟩ := v
      replace hbl : ((rn : Int) == 0) = b := hbl
      have q2 : w3.cell? ⟨bb, off + j * 5 + 2, none⟩ = some (.slice rA rn rc) := l2
      have Hnx := Lib.hid hnx
      clear hx hpl hbB gb hnx l0 l1 l2 l3 l4
      cases b with
      | false =>
        go_wp2
        go_roundw
        case rel => exact ⟨j + 1, q, by omega, by go_num, rfl, by first | exact Lib.hid rfl | exact Lib.hid trivial, Lib.hid Hnx.out⟩
        case measure => simp [intOf]; omega
      | true =>
        have hwq : IntKind.i64.wrap (((F + q : Nat) : Int) + 1) = ((F + (q + 1) : Nat) : Int) := by rw [IntWalk.i64_in _ (by omega)]; omega
        obtain ⟨fq, gfq⟩ : ∃ z, F + q = z := ⟨_, rfl⟩
        have gfq2 : F + (q + 1) = fq + 1 := by omega
        rw [gfq, gfq2] at hwq
        rw [gfq]
        have Gfq := Lib.hid gfq2
        clear gfq gfq2
        go_wp2
        go_roundw
        case rel => exact ⟨j + 1, q + 1, by omega, by go_num, by rw [Gfq.out]; go_num, by first | exact Lib.hid rfl | exact Lib.hid trivial, Lib.hid Hnx.out⟩
        case measure => simp [intOf]; omega
    · obtain rfl : n = j := by omega
      have hq : q = an := by rw [HG.out, HQ.out]
      subst hq
      obtain ⟨fq, gfq⟩ : ∃ z, F + q = z := ⟨_, rfl⟩
      have Gfz : RowKit.Hid ((F : Int) + (q : Int) = (fq : Int)) := Lib.hid (by omega)
      rw [gfq]
      clear gfq
      go_upto_region 7 with fail
      have Da_911 := Lib.hid (HD5.out.dr)
      have D0_911 := Lib.hid (HX5.out.dr)
      have Bel_911 := Lib.hid (bel_dr HB5.out)
      have ld912 : ∀ w', Kept Nil_ w3.drew w' → w'.cell? ⟨w.heap.size, 0, none⟩ = some (.slice A n c) := fun w' h => h.nil_cell (D0_911.out.cell (i := 0) rfl)
      have ld913 : ∀ w', Kept Nil_ w3.drew w' → w'.cell? ⟨w.heap.size, 1, none⟩ = some (.slice B m k) := fun w' h => h.nil_cell (D0_911.out.cell (i := 1) rfl)
      refine wp_region_reg Nil_ (by kernel_rfl) ?_
      apply wpR_next 0 (some 28)
      · simp only [List.getElem?_toArray, List.getElem?_cons_succ, List.getElem?_cons_zero]; exact rfl
      · rfl
      · kernel_rfl
      · kernel_rfl
      · kernel_rfl
      · exact fun _ _ _ _ h => h
      apply Exists.intro
      apply And.intro
      · apply yr_run; rfl; intro w' hw'; go_simp; (try with_reducible rfl)
      simp only [Act.put, List.setIfInBounds_toArray, List.set_cons_zero, List.set_cons_succ]
      apply wpR_next 1 (some 29)
      · simp only [List.getElem?_toArray, List.getElem?_cons_succ, List.getElem?_cons_zero]; exact rfl
      · rfl
      · kernel_rfl
      · kernel_rfl
      · kernel_rfl
      · exact fun _ _ _ _ h => h
      apply Exists.intro
      apply And.intro
      · apply yr_run; rfl; intro w' hw'; go_simp; (try with_reducible rfl)
      simp only [Act.put, List.setIfInBounds_toArray, List.set_cons_zero, List.set_cons_succ]
      apply wpR_next 2 (some 30)
      · simp only [List.getElem?_toArray, List.getElem?_cons_succ, List.getElem?_cons_zero]; exact rfl
      · rfl
      · kernel_rfl
      · kernel_rfl
      · kernel_rfl
      · exact fun _ _ _ _ h => h
      apply Exists.intro
      apply And.intro
      · apply yr_run; rfl; intro w' hw'; go_simp; (try with_reducible rfl)
      simp only [Act.put, List.setIfInBounds_toArray, List.set_cons_zero, List.set_cons_succ]
      apply wpR_next 3 (some 31)
      · simp only [List.getElem?_toArray, List.getElem?_cons_succ, List.getElem?_cons_zero]; exact rfl
      · rfl
      · kernel_rfl
      · kernel_rfl
      · kernel_rfl
      · exact fun _ _ _ _ h => h
      apply Exists.intro
      apply And.intro
      · apply yr_run; rfl; intro w' hw'; go_simp; (try with_reducible rfl)
      simp only [Act.put, List.setIfInBounds_toArray, List.set_cons_zero, List.set_cons_succ]
      apply wpR_next 4 (some 32)
      · simp only [List.getElem?_toArray, List.getElem?_cons_succ, List.getElem?_cons_zero]; exact rfl
      · rfl
      · kernel_rfl
      · kernel_rfl
      · kernel_rfl
      · exact fun _ _ _ _ h => h
      apply Exists.intro
      apply And.intro
      · apply yr_run; rfl; intro w' hw'; go_simp; (try with_reducible rfl)
      simp only [Act.put, List.setIfInBounds_toArray, List.set_cons_zero, List.set_cons_succ]
      apply wpR_next 5 (some 33)
      · simp only [List.getElem?_toArray, List.getElem?_cons_succ, List.getElem?_cons_zero]; exact rfl
      · rfl
      · kernel_rfl
      · kernel_rfl
      · kernel_rfl
      · exact fun _ _ _ _ h => h
      apply Exists.intro
      apply And.intro
      · apply yr_run; rfl; intro w' hw'; go_simp; (try with_reducible rfl)
      simp only [Act.put, List.setIfInBounds_toArray, List.set_cons_zero, List.set_cons_succ]
      apply wpR_next 6 (some 34)
      · simp only [List.getElem?_toArray, List.getElem?_cons_succ, List.getElem?_cons_zero]; exact rfl
      · rfl
      · kernel_rfl
      · kernel_rfl
      · kernel_rfl
      · exact fun _ _ _ _ h => h
      apply Exists.intro
      apply And.intro
      · apply yr_run; rfl; intro w' hw'; go_simp; (try with_reducible rfl)
      simp only [Act.put, List.setIfInBounds_toArray, List.set_cons_zero, List.set_cons_succ]
      apply wpR_next 7 (some 35)
      · simp only [List.getElem?_toArray, List.getElem?_cons_succ, List.getElem?_cons_zero]; exact rfl
      · rfl
      · kernel_rfl
      · kernel_rfl
      · kernel_rfl
      · exact fun _ _ _ _ h => h
      apply Exists.intro
      apply And.intro
      · apply yr_run; rfl; intro w' hw'; go_simp; (try with_reducible rfl)
      simp only [Act.put, List.setIfInBounds_toArray, List.set_cons_zero, List.set_cons_succ]
      apply wpR_call 8 (some 36)
      · simp only [List.getElem?_toArray, List.getElem?_cons_succ, List.getElem?_cons_zero]; exact rfl
      · rfl
      · kernel_rfl
      · rfl
      · intro w'; go_simp; first | done | exact ⟨rfl, rfl⟩ | with_reducible rfl
      intro w' hw'
      refine (HCc.out _ (Da_911.out.bl hw')).mono ?_
      rintro e w914 ⟨rfl, hb914⟩
      have Da_914 := Lib.hid ((Da_911.out.bl hw').bl hb914)
      have D0_914 := Lib.hid ((D0_911.out.bl hw').bl hb914)
      have Bel_914 := Lib.hid (bel_bl (bel_bl Bel_911.out hw') hb914)
      have ld915 := fun w'' (h : Kept Nil_ w914 w'') => ld912 w'' ((Kept.of_ext hw').trans ((Kept.of_below hb914).trans h))
      have ld916 := fun w'' (h : Kept Nil_ w914 w'') => ld913 w'' ((Kept.of_ext hw').trans ((Kept.of_below hb914).trans h))
      refine ⟨_, rfl, Kept.of_below hb914, ?_⟩
      clear hw' hb914
      simp only [Act.put, List.setIfInBounds_toArray, List.set_cons_zero, List.set_cons_succ]
      apply wpR_next 9 (some 2)
      · simp only [List.getElem?_toArray, List.getElem?_cons_succ, List.getElem?_cons_zero]; exact rfl
      · rfl
      · kernel_rfl
      · kernel_rfl
      · kernel_rfl
      · exact fun _ _ _ _ h => h
      apply Exists.intro
      apply And.intro
      · apply yr_run; rfl; intro w' hw'; go_simp; (try with_reducible rfl)
      simp only [Act.put, List.setIfInBounds_toArray, List.set_cons_zero, List.set_cons_succ]
      apply wpR_next 10 (some 3)
      · simp only [List.getElem?_toArray, List.getElem?_cons_succ, List.getElem?_cons_zero]; exact rfl
      · rfl
      · kernel_rfl
      · kernel_rfl
      · kernel_rfl
      · exact fun _ _ _ _ h => h
      apply Exists.intro
      apply And.intro
      · apply yr_run; rfl; intro w' hw'; go_simp; (try with_reducible rfl)
      simp only [Act.put, List.setIfInBounds_toArray, List.set_cons_zero, List.set_cons_succ]
      apply wpR_next 11 (some 4)
      · simp only [List.getElem?_toArray, List.getElem?_cons_succ, List.getElem?_cons_zero]; exact rfl
      · rfl
      · kernel_rfl
      · kernel_rfl
      · kernel_rfl
      · exact fun _ _ _ _ h => h
      apply Exists.intro
      apply And.intro
      · apply yr_run; rfl; intro w' hw'; go_simp; (try with_reducible rfl)
      simp only [Act.put, List.setIfInBounds_toArray, List.set_cons_zero, List.set_cons_succ]
      apply wpR_next 12 (some 5)
      · simp only [List.getElem?_toArray, List.getElem?_cons_succ, List.getElem?_cons_zero]; exact rfl
      · rfl
      · kernel_rfl
      · kernel_rfl
      · kernel_rfl
      · exact fun _ _ _ _ h => h
      apply Exists.intro
      apply And.intro
      · apply yr_run; rfl; intro w' hw'; go_simp; (try with_reducible rfl)
      simp only [Act.put, List.setIfInBounds_toArray, List.set_cons_zero, List.set_cons_succ]
      refine wpR_done (by kernel_rfl) ?_ _
      intro w917 hw'
      have Da_918 := Lib.hid (Da_914.out.bl hw')
      have D0_918 := Lib.hid (D0_914.out.bl hw')
      have Bel_918 := Lib.hid (bel_bl Bel_914.out hw')
      clear Da_914 D0_914 Bel_914
      clear hw'
      go_wp2
      exact bodyPost_ret (v := .tuple #[.int .i64 (n : Int), .int .i64 (m : Int), .int .i64 (fq : Int), .int .i64 (C : Int)]) (by simp [results, Tryz.results42, go_sem]) rfl ⟨by rw [Gfz.out], Bel_918.out⟩
end Go.Proofs.YtahbfdhjgnlmdaaGreat

/- Counts of layer 7. -/
namespace Go.Proofs.YtahbfdhjgnlmdaaGreat
open Go.RowKit
set_option linter.unusedSimpArgs false
set_option linter.unusedVariables false

set_option maxRecDepth 100000 in
set_option maxHeartbeats 4000000 in
theorem egenus_any (A : Option Addr) (n c : Nat) (Vs : List VC) (B : Option Addr) (m k : Nat) (Es : List EC) (f C : Nat) (g : Int) (w : World) (h : DgIn w A n c Vs B m k Es) (hn : n ≤ 1000000) (hm : m ≤ 1000000) (hf : f ≤ 2000000) (hC : C ≤ 1000000) (hg : (2 * (C : Int) - n + m - f).tdiv 2 = g)
    (HN : ∀ W, DgIn W A n c Vs B m k Es → Calls Tryz.prog 77 #[.agg #[.slice A n c, .slice B m k]] W fun e w' => e = .returned (.tuple #[.int .i64 (n : Int), .int .i64 (m : Int), .int .i64 (f : Int), .int .i64 (C : Int)]) ∧ Below W.heap.size W w') :
    Calls Tryz.prog 55 #[.agg #[.slice A n c, .slice B m k]] w fun e w' => e = .returned (.int .i64 g) ∧ Below w.heap.size w w' := by
  have HDa := Lib.hid h
  have HNn := Lib.hid HN
  have h1 : IntKind.i64.wrap (2 * (C : Int)) = 2 * (C : Int) := IntWalk.i64_in _ (by omega)
  have h2 : IntKind.i64.wrap (2 * (C : Int) - (n : Int)) = 2 * (C : Int) - (n : Int) := IntWalk.i64_in _ (by omega)
  have h3 : IntKind.i64.wrap (2 * (C : Int) - (n : Int) + (m : Int)) = 2 * (C : Int) - (n : Int) + (m : Int) := IntWalk.i64_in _ (by omega)
  have h4 : IntKind.i64.wrap (2 * (C : Int) - (n : Int) + (m : Int) - (f : Int)) = 2 * (C : Int) - (n : Int) + (m : Int) - (f : Int) := IntWalk.i64_in _ (by omega)
  have hgb : -9223372036854775808 ≤ g ∧ g ≤ 9223372036854775807 := by
    rw [← hg]
    have q1 : -(8000000 : Int) ≤ (2 * (C : Int) - n + m - f) := by omega
    have q2 : (2 * (C : Int) - n + m - f) ≤ 8000000 := by omega
    generalize (2 * (C : Int) - (n : Int) + m - f) = x at q1 q2
    rcases Int.le_total 0 x with q | q
    · rw [Int.tdiv_eq_ediv_of_nonneg q]; omega
    · have e : x.tdiv 2 = -((-x) / 2) := by rw [← Int.tdiv_eq_ediv_of_nonneg (show (0 : Int) ≤ -x by omega), Int.neg_tdiv, Int.neg_neg]
      rw [e]
      omega
  have h5 : IntKind.i64.wrap ((2 * (C : Int) - (n : Int) + (m : Int) - (f : Int)).tdiv 2) = g := by rw [hg]; exact IntWalk.i64_in _ hgb
  clear h HN hg hgb
  go_enter Tryz.func55, Tryz.ntmps55
  have lw1 : ((w.alloc (.cells #[.slice A n c, .slice B m k] 25))).cell? ⟨w.heap.size, 0, none⟩ = some (.slice A n c) := (show Whole (w.alloc (.cells #[.slice A n c, .slice B m k] 25)) (w.heap.size) (25) ([.slice A n c, .slice B m k]) from Whole.new2 (by first | rfl | simp)).cell (i := 0) rfl
  have lw2 : ((w.alloc (.cells #[.slice A n c, .slice B m k] 25))).cell? ⟨w.heap.size, 1, none⟩ = some (.slice B m k) := (show Whole (w.alloc (.cells #[.slice A n c, .slice B m k] 25)) (w.heap.size) (25) ([.slice A n c, .slice B m k]) from Whole.new2 (by first | rfl | simp)).cell (i := 1) rfl
  go_wp2_with fail
  clear lw1 lw2
  refine (HNn.out _ (HDa.out.al (.cells #[.slice A n c, .slice B m k] 25))).mono ?_
  rintro e w3 ⟨rfl, hb3⟩
  have Da_4 := Lib.hid ((HDa.out.al (.cells #[.slice A n c, .slice B m k] 25)).bl hb3)
  have D0_4 := Lib.hid ((show Whole (w.alloc (.cells #[.slice A n c, .slice B m k] 25)) (w.heap.size) (25) ([.slice A n c, .slice B m k]) from Whole.new2 (by first | rfl | simp)).bl hb3)
  have Bel_4 := Lib.hid (bel_bl (bel_al (Below.refl _ w) (.cells #[.slice A n c, .slice B m k] 25)) hb3)
  clear HDa
  clear hb3
  go_wp2
  go_ret
  exact ⟨by first | rfl | (rw [h5]) | simp [h5], Bel_4.out⟩
set_option maxRecDepth 100000 in
set_option maxHeartbeats 4000000 in
theorem rgenus_any (A : Option Addr) (n c : Nat) (Vs : List VC) (B : Option Addr) (m k : Nat) (Es : List EC) (f C : Nat) (g : Int) (w : World) (h : DgIn w A n c Vs B m k Es) (hn : n ≤ 1000000) (hm : m ≤ 1000000) (hf : f ≤ 2000000) (hC : C ≤ 1000000) (hg : (2 * (C : Int) - n + m - f).tdiv 2 = g)
    (HN : ∀ W, DgIn W A n c Vs B m k Es → Calls Tryz.prog 42 #[.agg #[.slice A n c, .slice B m k]] W fun e w' => e = .returned (.tuple #[.int .i64 (n : Int), .int .i64 (m : Int), .int .i64 (f : Int), .int .i64 (C : Int)]) ∧ Below W.heap.size W w') :
    Calls Tryz.prog 25 #[.agg #[.slice A n c, .slice B m k]] w fun e w' => e = .returned (.int .i64 g) ∧ Below w.heap.size w w' := by
  have HDa := Lib.hid h
  have HNn := Lib.hid HN
  have h1 : IntKind.i64.wrap (2 * (C : Int)) = 2 * (C : Int) := IntWalk.i64_in _ (by omega)
  have h2 : IntKind.i64.wrap (2 * (C : Int) - (n : Int)) = 2 * (C : Int) - (n : Int) := IntWalk.i64_in _ (by omega)
  have h3 : IntKind.i64.wrap (2 * (C : Int) - (n : Int) + (m : Int)) = 2 * (C : Int) - (n : Int) + (m : Int) := IntWalk.i64_in _ (by omega)
  have h4 : IntKind.i64.wrap (2 * (C : Int) - (n : Int) + (m : Int) - (f : Int)) = 2 * (C : Int) - (n : Int) + (m : Int) - (f : Int) := IntWalk.i64_in _ (by omega)
  have hgb : -9223372036854775808 ≤ g ∧ g ≤ 9223372036854775807 := by
    rw [← hg]
    have q1 : -(8000000 : Int) ≤ (2 * (C : Int) - n + m - f) := by omega
    have q2 : (2 * (C : Int) - n + m - f) ≤ 8000000 := by omega
    generalize (2 * (C : Int) - (n : Int) + m - f) = x at q1 q2
    rcases Int.le_total 0 x with q | q
    · rw [Int.tdiv_eq_ediv_of_nonneg q]; omega
    · have e : x.tdiv 2 = -((-x) / 2) := by rw [← Int.tdiv_eq_ediv_of_nonneg (show (0 : Int) ≤ -x by omega), Int.neg_tdiv, Int.neg_neg]
      rw [e]
      omega
  have h5 : IntKind.i64.wrap ((2 * (C : Int) - (n : Int) + (m : Int) - (f : Int)).tdiv 2) = g := by rw [hg]; exact IntWalk.i64_in _ hgb
  clear h HN hg hgb
  go_enter Tryz.func25, Tryz.ntmps25
  have lw1 : ((w.alloc (.cells #[.slice A n c, .slice B m k] 25))).cell? ⟨w.heap.size, 0, none⟩ = some (.slice A n c) := (show Whole (w.alloc (.cells #[.slice A n c, .slice B m k] 25)) (w.heap.size) (25) ([.slice A n c, .slice B m k]) from Whole.new2 (by first | rfl | simp)).cell (i := 0) rfl
  have lw2 : ((w.alloc (.cells #[.slice A n c, .slice B m k] 25))).cell? ⟨w.heap.size, 1, none⟩ = some (.slice B m k) := (show Whole (w.alloc (.cells #[.slice A n c, .slice B m k] 25)) (w.heap.size) (25) ([.slice A n c, .slice B m k]) from Whole.new2 (by first | rfl | simp)).cell (i := 1) rfl
  go_wp2_with fail
  clear lw1 lw2
  refine (HNn.out _ (HDa.out.al (.cells #[.slice A n c, .slice B m k] 25))).mono ?_
  rintro e w3 ⟨rfl, hb3⟩
  have Da_4 := Lib.hid ((HDa.out.al (.cells #[.slice A n c, .slice B m k] 25)).bl hb3)
  have D0_4 := Lib.hid ((show Whole (w.alloc (.cells #[.slice A n c, .slice B m k] 25)) (w.heap.size) (25) ([.slice A n c, .slice B m k]) from Whole.new2 (by first | rfl | simp)).bl hb3)
  have Bel_4 := Lib.hid (bel_bl (bel_al (Below.refl _ w) (.cells #[.slice A n c, .slice B m k] 25)) hb3)
  clear HDa
  clear hb3
  go_wp2
  go_ret
  exact ⟨by first | rfl | (rw [h5]) | simp [h5], Bel_4.out⟩
set_option maxRecDepth 100000 in
set_option maxHeartbeats 4000000 in
theorem eplan_any (A : Option Addr) (n c : Nat) (Vs : List VC) (B : Option Addr) (m k : Nat) (Es : List EC) (g : Int) (w : World) (h : DgIn w A n c Vs B m k Es) (HG : ∀ W, DgIn W A n c Vs B m k Es → Calls Tryz.prog 55 #[.agg #[.slice A n c, .slice B m k]] W fun e w' => e = .returned (.int .i64 g) ∧ Below W.heap.size W w') :
    Calls Tryz.prog 28 #[.agg #[.slice A n c, .slice B m k]] w fun e w' => e = .returned (.bool (g == 0)) ∧ Below w.heap.size w w' := by
  have HDa := Lib.hid h
  have HGg := Lib.hid HG
  obtain ⟨b, gb⟩ : ∃ z, (g == 0) = z := ⟨_, rfl⟩
  rw [gb]
  clear h HG
  go_enter Tryz.func28, Tryz.ntmps28
  have lw1 : ((w.alloc (.cells #[.slice A n c, .slice B m k] 25))).cell? ⟨w.heap.size, 0, none⟩ = some (.slice A n c) := (show Whole (w.alloc (.cells #[.slice A n c, .slice B m k] 25)) (w.heap.size) (25) ([.slice A n c, .slice B m k]) from Whole.new2 (by first | rfl | simp)).cell (i := 0) rfl
  have lw2 : ((w.alloc (.cells #[.slice A n c, .slice B m k] 25))).cell? ⟨w.heap.size, 1, none⟩ = some (.slice B m k) := (show Whole (w.alloc (.cells #[.slice A n c, .slice B m k] 25)) (w.heap.size) (25) ([.slice A n c, .slice B m k]) from Whole.new2 (by first | rfl | simp)).cell (i := 1) rfl
  go_wp2_with fail
  clear lw1 lw2
  refine (HGg.out _ (HDa.out.al (.cells #[.slice A n c, .slice B m k] 25))).mono ?_
  rintro e w3 ⟨rfl, hb3⟩
  have Da_4 := Lib.hid ((HDa.out.al (.cells #[.slice A n c, .slice B m k] 25)).bl hb3)
  have D0_4 := Lib.hid ((show Whole (w.alloc (.cells #[.slice A n c, .slice B m k] 25)) (w.heap.size) (25) ([.slice A n c, .slice B m k]) from Whole.new2 (by first | rfl | simp)).bl hb3)
  have Bel_4 := Lib.hid (bel_bl (bel_al (Below.refl _ w) (.cells #[.slice A n c, .slice B m k] 25)) hb3)
  clear HDa
  clear hb3
  go_wp2
  go_ret
  exact ⟨by first | rfl | (rw [gb]) | simp [gb], Bel_4.out⟩
set_option maxRecDepth 100000 in
set_option maxHeartbeats 4000000 in
theorem emay_any (A : Option Addr) (n c : Nat) (Vs : List VC) (B : Option Addr) (m k : Nat) (Es : List EC) (e : Int) (g : Int) (w : World) (h : DgIn w A n c Vs B m k Es) (HM : ∀ W, DgIn W A n c Vs B m k Es → Calls Tryz.prog 27 #[.agg #[.slice A n c, .slice B m k]] W fun r w' => r = .returned (.int .i64 e) ∧ Below W.heap.size W w')
    (HG : e = 0 → ∀ W, DgIn W A n c Vs B m k Es → Calls Tryz.prog 28 #[.agg #[.slice A n c, .slice B m k]] W fun r w' => r = .returned (.bool (g == 0)) ∧ Below W.heap.size W w') :
    Calls Tryz.prog 14 #[.agg #[.slice A n c, .slice B m k]] w fun r w' => r = .returned (.int .i64 (if e = 0 then (if g = 0 then 0 else 11) else e)) ∧ Below w.heap.size w w' := by
  have HDa := Lib.hid h
  have HMm := Lib.hid HM
  have HGg := Lib.hid HG
  clear h HM HG
  by_cases he : e = 0
  · subst he
    rw [if_pos rfl]
    replace HGg := Lib.hid (HGg.out rfl)
    by_cases hg : g = 0
    · rw [if_pos hg]
      subst hg
      rw [show ((0 : Int) == 0) = true from rfl] at HGg
      go_enter Tryz.func14, Tryz.ntmps14
      have lw1 : ((w.alloc (.cells #[.slice A n c, .slice B m k] 25))).cell? ⟨w.heap.size, 0, none⟩ = some (.slice A n c) := (show Whole (w.alloc (.cells #[.slice A n c, .slice B m k] 25)) (w.heap.size) (25) ([.slice A n c, .slice B m k]) from Whole.new2 (by first | rfl | simp)).cell (i := 0) rfl
      have lw2 : ((w.alloc (.cells #[.slice A n c, .slice B m k] 25))).cell? ⟨w.heap.size, 1, none⟩ = some (.slice B m k) := (show Whole (w.alloc (.cells #[.slice A n c, .slice B m k] 25)) (w.heap.size) (25) ([.slice A n c, .slice B m k]) from Whole.new2 (by first | rfl | simp)).cell (i := 1) rfl
      go_wp2_with fail
      clear lw1 lw2
      refine (HMm.out _ (HDa.out.al (.cells #[.slice A n c, .slice B m k] 25))).mono ?_
      rintro e w3 ⟨rfl, hb3⟩
      have Da_4 := Lib.hid ((HDa.out.al (.cells #[.slice A n c, .slice B m k] 25)).bl hb3)
      have D0_4 := Lib.hid ((show Whole (w.alloc (.cells #[.slice A n c, .slice B m k] 25)) (w.heap.size) (25) ([.slice A n c, .slice B m k]) from Whole.new2 (by first | rfl | simp)).bl hb3)
      have Bel_4 := Lib.hid (bel_bl (bel_al (Below.refl _ w) (.cells #[.slice A n c, .slice B m k] 25)) hb3)
      clear HDa
      clear hb3
      have lw5 : (w3).cell? ⟨w.heap.size, 0, none⟩ = some (.slice A n c) := D0_4.out.cell (i := 0) rfl
      have lw6 : (w3).cell? ⟨w.heap.size, 1, none⟩ = some (.slice B m k) := D0_4.out.cell (i := 1) rfl
      go_wp2_with fail
      clear lw5 lw6
      refine (HGg.out _ Da_4.out).mono ?_
      rintro e w7 ⟨rfl, hb7⟩
      have Da_8 := Lib.hid (Da_4.out.bl hb7)
      have D0_8 := Lib.hid (D0_4.out.bl hb7)
      have Bel_8 := Lib.hid (bel_bl Bel_4.out hb7)
      clear Da_4 D0_4 Bel_4
      clear hb7
      go_wp2
      go_ret
      exact ⟨rfl, Bel_8.out⟩
    · rw [if_neg hg]
      have hg2 : (g != 0) = true := by simp [hg]
      rw [show (g == 0) = false from beq_eq_false_iff_ne.2 hg] at HGg
      go_enter Tryz.func14, Tryz.ntmps14
      have lw1 : ((w.alloc (.cells #[.slice A n c, .slice B m k] 25))).cell? ⟨w.heap.size, 0, none⟩ = some (.slice A n c) := (show Whole (w.alloc (.cells #[.slice A n c, .slice B m k] 25)) (w.heap.size) (25) ([.slice A n c, .slice B m k]) from Whole.new2 (by first | rfl | simp)).cell (i := 0) rfl
      have lw2 : ((w.alloc (.cells #[.slice A n c, .slice B m k] 25))).cell? ⟨w.heap.size, 1, none⟩ = some (.slice B m k) := (show Whole (w.alloc (.cells #[.slice A n c, .slice B m k] 25)) (w.heap.size) (25) ([.slice A n c, .slice B m k]) from Whole.new2 (by first | rfl | simp)).cell (i := 1) rfl
      go_wp2_with fail
      clear lw1 lw2
      refine (HMm.out _ (HDa.out.al (.cells #[.slice A n c, .slice B m k] 25))).mono ?_
      rintro e w3 ⟨rfl, hb3⟩
      have Da_4 := Lib.hid ((HDa.out.al (.cells #[.slice A n c, .slice B m k] 25)).bl hb3)
      have D0_4 := Lib.hid ((show Whole (w.alloc (.cells #[.slice A n c, .slice B m k] 25)) (w.heap.size) (25) ([.slice A n c, .slice B m k]) from Whole.new2 (by first | rfl | simp)).bl hb3)
      have Bel_4 := Lib.hid (bel_bl (bel_al (Below.refl _ w) (.cells #[.slice A n c, .slice B m k] 25)) hb3)
      clear HDa
      clear hb3
      have lw5 : (w3).cell? ⟨w.heap.size, 0, none⟩ = some (.slice A n c) := D0_4.out.cell (i := 0) rfl
      have lw6 : (w3).cell? ⟨w.heap.size, 1, none⟩ = some (.slice B m k) := D0_4.out.cell (i := 1) rfl
      go_wp2_with fail
      clear lw5 lw6
      refine (HGg.out _ Da_4.out).mono ?_
      rintro e w7 ⟨rfl, hb7⟩
      have Da_8 := Lib.hid (Da_4.out.bl hb7)
      have D0_8 := Lib.hid (D0_4.out.bl hb7)
      have Bel_8 := Lib.hid (bel_bl Bel_4.out hb7)
      clear Da_4 D0_4 Bel_4
      clear hb7
      go_wp2
      go_ret
      exact ⟨rfl, Bel_8.out⟩
  · rw [if_neg he]
    have he2 : (e != 0) = true := by simp [he]
    go_enter Tryz.func14, Tryz.ntmps14
    have lw1 : ((w.alloc (.cells #[.slice A n c, .slice B m k] 25))).cell? ⟨w.heap.size, 0, none⟩ = some (.slice A n c) := (show Whole (w.alloc (.cells #[.slice A n c, .slice B m k] 25)) (w.heap.size) (25) ([.slice A n c, .slice B m k]) from Whole.new2 (by first | rfl | simp)).cell (i := 0) rfl
    have lw2 : ((w.alloc (.cells #[.slice A n c, .slice B m k] 25))).cell? ⟨w.heap.size, 1, none⟩ = some (.slice B m k) := (show Whole (w.alloc (.cells #[.slice A n c, .slice B m k] 25)) (w.heap.size) (25) ([.slice A n c, .slice B m k]) from Whole.new2 (by first | rfl | simp)).cell (i := 1) rfl
    go_wp2_with fail
    clear lw1 lw2
    refine (HMm.out _ (HDa.out.al (.cells #[.slice A n c, .slice B m k] 25))).mono ?_
    rintro e w3 ⟨rfl, hb3⟩
    have Da_4 := Lib.hid ((HDa.out.al (.cells #[.slice A n c, .slice B m k] 25)).bl hb3)
    have D0_4 := Lib.hid ((show Whole (w.alloc (.cells #[.slice A n c, .slice B m k] 25)) (w.heap.size) (25) ([.slice A n c, .slice B m k]) from Whole.new2 (by first | rfl | simp)).bl hb3)
    have Bel_4 := Lib.hid (bel_bl (bel_al (Below.refl _ w) (.cells #[.slice A n c, .slice B m k] 25)) hb3)
    clear HDa
    clear hb3
    go_wp2
    go_ret
    exact ⟨rfl, Bel_4.out⟩
set_option maxRecDepth 100000 in
set_option maxHeartbeats 4000000 in
theorem rmay7_any (A : Option Addr) (n c : Nat) (Vs : List VC) (B : Option Addr) (m k : Nat) (Es : List EC) (e : Int) (g : Int) (w : World) (h : DgIn w A n c Vs B m k Es) (HM : ∀ W, DgIn W A n c Vs B m k Es → Calls Tryz.prog 24 #[.agg #[.slice A n c, .slice B m k]] W fun r w' => r = .returned (.int .i64 e) ∧ Below W.heap.size W w')
    (HG : e = 0 → ∀ W, DgIn W A n c Vs B m k Es → Calls Tryz.prog 25 #[.agg #[.slice A n c, .slice B m k]] W fun r w' => r = .returned (.int .i64 g) ∧ Below W.heap.size W w') :
    Calls Tryz.prog 12 #[.agg #[.slice A n c, .slice B m k]] w fun r w' => r = .returned (.int .i64 (if e = 0 then (if g = 0 then 0 else 11) else e)) ∧ Below w.heap.size w w' := by
  have HDa := Lib.hid h
  have HMm := Lib.hid HM
  have HGg := Lib.hid HG
  clear h HM HG
  by_cases he : e = 0
  · subst he
    rw [if_pos rfl]
    replace HGg := Lib.hid (HGg.out rfl)
    by_cases hg : g = 0
    · rw [if_pos hg]
      subst hg
      go_enter Tryz.func12, Tryz.ntmps12
      have lw1 : ((w.alloc (.cells #[.slice A n c, .slice B m k] 25))).cell? ⟨w.heap.size, 0, none⟩ = some (.slice A n c) := (show Whole (w.alloc (.cells #[.slice A n c, .slice B m k] 25)) (w.heap.size) (25) ([.slice A n c, .slice B m k]) from Whole.new2 (by first | rfl | simp)).cell (i := 0) rfl
      have lw2 : ((w.alloc (.cells #[.slice A n c, .slice B m k] 25))).cell? ⟨w.heap.size, 1, none⟩ = some (.slice B m k) := (show Whole (w.alloc (.cells #[.slice A n c, .slice B m k] 25)) (w.heap.size) (25) ([.slice A n c, .slice B m k]) from Whole.new2 (by first | rfl | simp)).cell (i := 1) rfl
      go_wp2_with fail
      clear lw1 lw2
      refine (HMm.out _ (HDa.out.al (.cells #[.slice A n c, .slice B m k] 25))).mono ?_
      rintro e w3 ⟨rfl, hb3⟩
      have Da_4 := Lib.hid ((HDa.out.al (.cells #[.slice A n c, .slice B m k] 25)).bl hb3)
      have D0_4 := Lib.hid ((show Whole (w.alloc (.cells #[.slice A n c, .slice B m k] 25)) (w.heap.size) (25) ([.slice A n c, .slice B m k]) from Whole.new2 (by first | rfl | simp)).bl hb3)
      have Bel_4 := Lib.hid (bel_bl (bel_al (Below.refl _ w) (.cells #[.slice A n c, .slice B m k] 25)) hb3)
      clear HDa
      clear hb3
      have lw5 : (w3).cell? ⟨w.heap.size, 0, none⟩ = some (.slice A n c) := D0_4.out.cell (i := 0) rfl
      have lw6 : (w3).cell? ⟨w.heap.size, 1, none⟩ = some (.slice B m k) := D0_4.out.cell (i := 1) rfl
      go_wp2_with fail
      clear lw5 lw6
      refine (HGg.out _ Da_4.out).mono ?_
      rintro e w7 ⟨rfl, hb7⟩
      have Da_8 := Lib.hid (Da_4.out.bl hb7)
      have D0_8 := Lib.hid (D0_4.out.bl hb7)
      have Bel_8 := Lib.hid (bel_bl Bel_4.out hb7)
      clear Da_4 D0_4 Bel_4
      clear hb7
      go_wp2
      go_ret
      exact ⟨rfl, Bel_8.out⟩
    · rw [if_neg hg]
      have hg2 : (g != 0) = true := by simp [hg]
      go_enter Tryz.func12, Tryz.ntmps12
      have lw1 : ((w.alloc (.cells #[.slice A n c, .slice B m k] 25))).cell? ⟨w.heap.size, 0, none⟩ = some (.slice A n c) := (show Whole (w.alloc (.cells #[.slice A n c, .slice B m k] 25)) (w.heap.size) (25) ([.slice A n c, .slice B m k]) from Whole.new2 (by first | rfl | simp)).cell (i := 0) rfl
      have lw2 : ((w.alloc (.cells #[.slice A n c, .slice B m k] 25))).cell? ⟨w.heap.size, 1, none⟩ = some (.slice B m k) := (show Whole (w.alloc (.cells #[.slice A n c, .slice B m k] 25)) (w.heap.size) (25) ([.slice A n c, .slice B m k]) from Whole.new2 (by first | rfl | simp)).cell (i := 1) rfl
      go_wp2_with fail
      clear lw1 lw2
      refine (HMm.out _ (HDa.out.al (.cells #[.slice A n c, .slice B m k] 25))).mono ?_
      rintro e w3 ⟨rfl, hb3⟩
      have Da_4 := Lib.hid ((HDa.out.al (.cells #[.slice A n c, .slice B m k] 25)).bl hb3)
      have D0_4 := Lib.hid ((show Whole (w.alloc (.cells #[.slice A n c, .slice B m k] 25)) (w.heap.size) (25) ([.slice A n c, .slice B m k]) from Whole.new2 (by first | rfl | simp)).bl hb3)
      have Bel_4 := Lib.hid (bel_bl (bel_al (Below.refl _ w) (.cells #[.slice A n c, .slice B m k] 25)) hb3)
      clear HDa
      clear hb3
      have lw5 : (w3).cell? ⟨w.heap.size, 0, none⟩ = some (.slice A n c) := D0_4.out.cell (i := 0) rfl
      have lw6 : (w3).cell? ⟨w.heap.size, 1, none⟩ = some (.slice B m k) := D0_4.out.cell (i := 1) rfl
      go_wp2_with fail
      clear lw5 lw6
      refine (HGg.out _ Da_4.out).mono ?_
      rintro e w7 ⟨rfl, hb7⟩
      have Da_8 := Lib.hid (Da_4.out.bl hb7)
      have D0_8 := Lib.hid (D0_4.out.bl hb7)
      have Bel_8 := Lib.hid (bel_bl Bel_4.out hb7)
      clear Da_4 D0_4 Bel_4
      clear hb7
      go_wp2
      go_ret
      exact ⟨rfl, Bel_8.out⟩
  · rw [if_neg he]
    have he2 : (e != 0) = true := by simp [he]
    go_enter Tryz.func12, Tryz.ntmps12
    have lw1 : ((w.alloc (.cells #[.slice A n c, .slice B m k] 25))).cell? ⟨w.heap.size, 0, none⟩ = some (.slice A n c) := (show Whole (w.alloc (.cells #[.slice A n c, .slice B m k] 25)) (w.heap.size) (25) ([.slice A n c, .slice B m k]) from Whole.new2 (by first | rfl | simp)).cell (i := 0) rfl
    have lw2 : ((w.alloc (.cells #[.slice A n c, .slice B m k] 25))).cell? ⟨w.heap.size, 1, none⟩ = some (.slice B m k) := (show Whole (w.alloc (.cells #[.slice A n c, .slice B m k] 25)) (w.heap.size) (25) ([.slice A n c, .slice B m k]) from Whole.new2 (by first | rfl | simp)).cell (i := 1) rfl
    go_wp2_with fail
    clear lw1 lw2
    refine (HMm.out _ (HDa.out.al (.cells #[.slice A n c, .slice B m k] 25))).mono ?_
    rintro e w3 ⟨rfl, hb3⟩
    have Da_4 := Lib.hid ((HDa.out.al (.cells #[.slice A n c, .slice B m k] 25)).bl hb3)
    have D0_4 := Lib.hid ((show Whole (w.alloc (.cells #[.slice A n c, .slice B m k] 25)) (w.heap.size) (25) ([.slice A n c, .slice B m k]) from Whole.new2 (by first | rfl | simp)).bl hb3)
    have Bel_4 := Lib.hid (bel_bl (bel_al (Below.refl _ w) (.cells #[.slice A n c, .slice B m k] 25)) hb3)
    clear HDa
    clear hb3
    go_wp2
    go_ret
    exact ⟨rfl, Bel_4.out⟩
end Go.Proofs.YtahbfdhjgnlmdaaGreat

/- Counts of layer 7. -/
namespace Go.Proofs.YtahbfdhjgnlmdaaGreat
open Go.RowKit
set_option linter.unusedSimpArgs false
set_option linter.unusedVariables false

end Go.Proofs.YtahbfdhjgnlmdaaGreat

/- few of stage 7: 26 vertices with rings of 82 darts, and 42 edges. -/
namespace Go.Proofs.YtahbfdhjgnlmdaaGreat
open Go.RowKit
set_option linter.unusedSimpArgs false
set_option linter.unusedVariables false

def few7V (v : VC) : VC := if 82 < v.2.1.2.1 then (v.1, (v.2.1.1, 82, v.2.1.2.2.1, v.2.1.2.2.2.take 82), v.2.2) else v
theorem few7V_next (Vs : List VC) (j : Nat) (v : VC) (h : Vs[j]? = some v) : rowsV vC ((Vs.take j).map few7V) ++ rowsV vC [few7V v] = rowsV vC ((Vs.take (j + 1)).map few7V) := by
  rw [← rowsV_app, List.take_add_one, h]
  simp
/-- Between two rounds: the vertices' row grows. -/
structure Few7A (w : World) (Vs : List VC) (A B : Option Addr) (n c m k b0 b1 b2 : Nat) (j : Nat) (v : Value) (wr : World) : Prop where
  ow : Ow w (b2 + 1) 47 5 v j (rowsV vC ((Vs.take j).map few7V)) wr
  x0 : Whole wr b0 25 [.slice A n c, .slice B m k]
  x1 : Whole wr b1 25 [.slice none 0 0, .slice none 0 0]
  x2 : Whole wr b2 25 [v, .slice none 0 0]
/-- Between two rounds: the edges' row grows. -/
structure Few7B (w : World) (Vs : List VC) (Es : List EC) (A B : Option Addr) (n c m k b0 b1 b2 B2 N : Nat) (A1 : Option Addr) (c1 j : Nat) (v u : Value) (wr : World) : Prop where
  ow : Ow w B2 43 4 v j (rowsV eC (Es.take j)) wr
  x0 : Whole wr b0 25 [.slice A n c, .slice B m k]
  x1 : Whole wr b1 25 [.slice none 0 0, .slice none 0 0]
  x2 : Whole wr b2 25 [.slice A1 N c1, u]
  rv : RdS wr B2 5 A1 N c1 (rowsV vC ((Vs.take 26).map few7V))
section
variable {w wr wr' : World} {Vs : List VC} {Es : List EC} {A B A1 : Option Addr} {n c m k b0 b1 b2 B2 N c1 j : Nat} {v u : Value}
theorem Few7B.below (h : Few7B w Vs Es A B n c m k b0 b1 b2 B2 N A1 c1 j v u wr) (hb : Below wr.heap.size wr wr') : Few7B w Vs Es A B n c m k b0 b1 b2 B2 N A1 c1 j v u wr' :=
  ⟨h.ow.up hb, h.x0.below hb, h.x1.below hb, h.x2.below hb, h.rv.up (hb.mono h.ow.hi) (Nat.le_refl _)⟩
/-- The row has grown. -/
theorem Few7B.grow (h : Few7B w Vs Es A B n c m k b0 b1 b2 B2 N A1 c1 j v u wr) {e : EC} (he : Es[j]? = some e) {v' : Value} (ho : Ow w B2 43 4 v' (j + 1) (rowsV eC (Es.take j) ++ eC e) wr') (hb : Below B2 wr wr') (h0 : b0 < B2) (h1 : b1 < B2) (h2 : b2 < B2) :
    Few7B w Vs Es A B n c m k b0 b1 b2 B2 N A1 c1 (j + 1) v' u wr' :=
  ⟨by rw [← fewE_next Es j e he]; simpa [rowsV] using ho, h.x0.at_ (hb.block _ h0), h.x1.at_ (hb.block _ h1), h.x2.at_ (hb.block _ h2), h.rv.up hb (Nat.le_refl _)⟩
theorem Few7B.store (h : Few7B w Vs Es A B n c m k b0 b1 b2 B2 N A1 c1 j v u wr) (h02 : b0 ≠ b2) (h12 : b1 ≠ b2) (h2 : b2 < B2) (hl : w.heap.size ≤ b2) (hne : ∀ a, A1 = some a → 0 < N → a.block ≠ b2) :
    Few7B w Vs Es A B n c m k b0 b1 b2 B2 N A1 c1 j v v (wr.setCell ⟨b2, 1, none⟩ v) :=
  ⟨h.ow.set_far (h.ow.low_ne h2) hl v, h.x0.set_far' h02 v, h.x1.set_far' h12 v, h.x2.set_ 1 v, h.rv.far_ hne v⟩
end
theorem RgOk.few7 {w : World} {v : VC} (h : RgOk w v.2.1) : RgOk w (few7V v).2.1 := by
  unfold few7V
  split
  · rename_i h30
    refine ⟨h.1, ?_⟩
    have := h.2.take_ 82 (by omega)
    rw [dartsV_rows, ← rowsV_take dC dC_len] at this
    show RdS w w.heap.size 3 v.2.1.1 82 v.2.1.2.2.1 (dartsV (v.2.1.2.2.2.take 82))
    rw [dartsV_rows]
    exact this
  · exact h
theorem few7V_ring (v : VC) : (few7V v).2.1.1 = v.2.1.1 ∧ (few7V v).2.1.2.1 ≤ 82 ∧ (few7V v).2.1.2.1 ≤ v.2.1.2.1 ∧ (few7V v).1 = v.1 ∧ (few7V v).2.2 = v.2.2 ∧ ∀ d ∈ (few7V v).2.1.2.2.2, d ∈ v.2.1.2.2.2 := by
  unfold few7V
  split
  · exact ⟨rfl, Nat.le_refl _, by show 82 ≤ _; omega, rfl, rfl, fun d hd => List.mem_of_mem_take hd⟩
  · exact ⟨rfl, by omega, Nat.le_refl _, rfl, rfl, fun d hd => hd⟩
theorem GoodD.few7 {Vs : List VC} {Es : List EC} (h : GoodD Vs Es) : GoodD ((Vs.take 26).map few7V) (Es.take 42) := by
  refine ⟨fun x hx d hd => ?_, fun e he => h.e e (List.mem_of_mem_take he), fun x hx => ?_, fun e he => h.le e (List.mem_of_mem_take he)⟩
  · obtain ⟨y, hy, rfl⟩ := List.mem_map.1 hx
    exact h.v y (List.mem_of_mem_take hy) d ((few7V_ring y).2.2.2.2.2 d hd)
  · obtain ⟨y, hy, rfl⟩ := List.mem_map.1 hx
    have := h.lv y (List.mem_of_mem_take hy)
    rw [(few7V_ring y).2.2.2.2.1]
    exact this
/-- What few tells. -/
structure Few7D (w0 W W' : World) (A : Option Addr) (n c : Nat) (Vs : List VC) (B : Option Addr) (m k : Nat) (Es : List EC) : Prop where
  dg : DgIn W' A n c Vs B m k Es
  good : GoodD Vs Es
  n30 : n ≤ 26
  m50 : m ≤ 42
  r30 : ∀ x ∈ Vs, x.2.1.2.1 ≤ 82
  low : ∀ x ∈ Vs, ∀ a, x.2.1.1 = some a → 0 < x.2.1.2.1 → a.block < w0.heap.size
  fresh : FwNew W A n c B m k
  lenv : Vs.length = n
  lene : Es.length = m
/-- The diagram that few told is put into a variable of the call's own. -/
theorem Few7D.put {w0 W W' : World} {A B : Option Addr} {n c m k g : Nat} {Vs : List VC} {Es : List EC} (h : Few7D w0 W W' A n c Vs B m k Es) (hg0 : w0.heap.size ≤ g) (hg : g < W.heap.size) (u v : Value) :
    DgIn ((W'.setCell ⟨g, 0, none⟩ u).setCell ⟨g, 1, none⟩ v) A n c Vs B m k Es := by
  have ha : ∀ a, A = some a → 0 < n → a.block ≠ g := fun a e h0 => by have := h.fresh.2.2.1 a e h0; omega
  have hb : ∀ a, B = some a → 0 < m → a.block ≠ g := fun a e h0 => by have := h.fresh.2.2.2 a e h0; omega
  have hr : ∀ x ∈ Vs, ∀ a, x.2.1.1 = some a → 0 < x.2.1.2.1 → a.block ≠ g := fun x hx a e h0 => by have := h.low x hx a e h0; omega
  exact (h.dg.far g 0 u ha hb hr).far g 1 v ha hb hr
end Go.Proofs.YtahbfdhjgnlmdaaGreat

/- What is counted of a diagram that is well formed; and the document's examples of layer 7. -/
namespace Go.Proofs.YtahbfdhjgnlmdaaGreat
open Go.RowKit
set_option linter.unusedSimpArgs false
set_option linter.unusedVariables false


/-- The genus, in numbers. -/
def genF (Vs : List VC) (Es : List EC) : Int := (2 * ((cntF (labF Vs) : Nat) : Int) - Vs.length + Es.length - ((facN Vs Es + aloneN Vs : Nat) : Int)).tdiv 2
def mayF7 (Vs : List VC) (Es : List EC) : Int := if formD Vs Es = 0 then (if genF Vs Es = 0 then 0 else 11) else formD Vs Es
section
variable {A : Option Addr} {n c : Nat} {Vs : List VC} {B : Option Addr} {m k : Nat} {Es : List EC}
theorem fac_small (hf : Formed Vs Es) : facN Vs Es ≤ 80 := by
  obtain ⟨P, hP, e⟩ := facN_reps hf
  rw [e]
  have h1 := nd_le hP.nd hP.sub
  have := hf.l80
  omega
theorem fac_any (hf : Formed Vs Es) (hg : GoodD Vs Es) : ∀ W, DgIn W A n c Vs B m k Es → Calls Tryz.prog 92 #[.agg #[.slice A n c, .slice B m k]] W fun e w' => ∃ A' c', e = .returned (.slice A' (facN Vs Es) c') ∧ Below W.heap.size W w' := fun W h => by
  refine (faces5_any A n c Vs B m k Es W h hf hg).mono ?_
  rintro e w' ⟨A', c', X, rfl, -, hX, hb⟩
  have hl := congrArg List.length hX
  rw [List.length_map] at hl
  rw [hl]
  exact ⟨A', c', rfl, hb⟩
theorem rfac_any (hf : Formed Vs Es) : ∀ W, DgIn W A n c Vs B m k Es → Calls Tryz.prog 64 #[.agg #[.slice A n c, .slice B m k]] W fun e w' => ∃ A' c', e = .returned (.slice A' (facN Vs Es) c') ∧ Below W.heap.size W w' := fun W h => by
  refine (rfaces_any A n c Vs B m k Es W h hf).mono ?_
  rintro e w' ⟨A', c', X, rfl, -, hX, hb⟩
  have hl := congrArg List.length hX
  rw [List.length_map] at hl
  rw [hl]
  exact ⟨A', c', rfl, hb⟩
theorem dg_lens {w : World} (h : DgIn w A n c Vs B m k Es) : Vs.length = n ∧ Es.length = m := ⟨h.v.rlen vC_len (by decide), h.e.rlen eC_len (by decide)⟩
theorem cntF_small (hf : Formed Vs Es) : cntF (labF Vs) ≤ 24 := by
  have := cnt_le Vs
  have := hf.v24
  omega
theorem cnt7_any (hf : Formed Vs Es) (hg : GoodD Vs Es) : ∀ W, DgIn W A n c Vs B m k Es → Calls Tryz.prog 77 #[.agg #[.slice A n c, .slice B m k]] W fun e w' => e = .returned (.tuple #[.int .i64 (n : Int), .int .i64 (m : Int), .int .i64 ((facN Vs Es + aloneN Vs : Nat) : Int), .int .i64 ((cntF (labF Vs) : Nat) : Int)]) ∧ Below W.heap.size W w' := fun W h => by
  have hp := hf.pre h hg
  have h1 := hf.small h
  exact ecnt_any A n c Vs B m k Es (facN Vs Es) (cntF (labF Vs)) W h hp.n (by omega) (by have := fac_small hf; omega) (by have := cntF_small hf; omega) (fac_any hf hg) (fun W h => count_any A n c Vs B m k Es W h hp.n hp.r hg.v)
theorem rcnt7_any (hf : Formed Vs Es) (hg : GoodD Vs Es) : ∀ W, DgIn W A n c Vs B m k Es → Calls Tryz.prog 42 #[.agg #[.slice A n c, .slice B m k]] W fun e w' => e = .returned (.tuple #[.int .i64 (n : Int), .int .i64 (m : Int), .int .i64 ((facN Vs Es + aloneN Vs : Nat) : Int), .int .i64 ((cntF (labF Vs) : Nat) : Int)]) ∧ Below W.heap.size W w' := fun W h => by
  have hp := hf.pre h hg
  have h1 := hf.small h
  exact rcnt_any A n c Vs B m k Es (facN Vs Es) (cntF (labF Vs)) W h hp.n (by omega) (by have := fac_small hf; omega) (by have := cntF_small hf; omega) (rfac_any hf) (fun W h => rcount_any A n c Vs B m k Es W h hf)
theorem gen7_eq {w : World} (h : DgIn w A n c Vs B m k Es) : (2 * ((cntF (labF Vs) : Nat) : Int) - (n : Int) + (m : Int) - ((facN Vs Es + aloneN Vs : Nat) : Int)).tdiv 2 = genF Vs Es := by
  obtain ⟨h1, h2⟩ := dg_lens h
  rw [genF, h1, h2]
theorem gen7_any (hf : Formed Vs Es) (hg : GoodD Vs Es) : ∀ W, DgIn W A n c Vs B m k Es → Calls Tryz.prog 55 #[.agg #[.slice A n c, .slice B m k]] W fun e w' => e = .returned (.int .i64 (genF Vs Es)) ∧ Below W.heap.size W w' := fun W h => by
  have hp := hf.pre h hg
  have h1 := hf.small h
  have h2 := alone_le Vs
  have h3 := (dg_lens h).1
  exact egenus_any A n c Vs B m k Es (facN Vs Es + aloneN Vs) (cntF (labF Vs)) (genF Vs Es) W h hp.n (by omega) (by have := fac_small hf; omega) (by have := cntF_small hf; omega) (gen7_eq h) (cnt7_any hf hg)
theorem rgen7_any (hf : Formed Vs Es) (hg : GoodD Vs Es) : ∀ W, DgIn W A n c Vs B m k Es → Calls Tryz.prog 25 #[.agg #[.slice A n c, .slice B m k]] W fun e w' => e = .returned (.int .i64 (genF Vs Es)) ∧ Below W.heap.size W w' := fun W h => by
  have hp := hf.pre h hg
  have h1 := hf.small h
  have h2 := alone_le Vs
  have h3 := (dg_lens h).1
  exact rgenus_any A n c Vs B m k Es (facN Vs Es + aloneN Vs) (cntF (labF Vs)) (genF Vs Es) W h hp.n (by omega) (by have := fac_small hf; omega) (by have := cntF_small hf; omega) (gen7_eq h) (rcnt7_any hf hg)
theorem plan7_any (hf : Formed Vs Es) (hg : GoodD Vs Es) : ∀ W, DgIn W A n c Vs B m k Es → Calls Tryz.prog 28 #[.agg #[.slice A n c, .slice B m k]] W fun e w' => e = .returned (.bool (genF Vs Es == 0)) ∧ Below W.heap.size W w' := fun W h =>
  eplan_any A n c Vs B m k Es (genF Vs Es) W h (gen7_any hf hg)
theorem form7_any (hr : ∀ x ∈ Vs, x.2.1.2.1 ≤ 1000000) (hg : GoodD Vs Es) : ∀ W, DgIn W A n c Vs B m k Es → Calls Tryz.prog 27 #[.agg #[.slice A n c, .slice B m k]] W fun e w' => e = .returned (.int .i64 (formD Vs Es)) ∧ Below W.heap.size W w' := fun W h => form_any A n c Vs B m k Es W h hr hg.e hg.v
theorem rform7_any (hr : ∀ x ∈ Vs, x.2.1.2.1 ≤ 1000000) (hg : GoodD Vs Es) : ∀ W, DgIn W A n c Vs B m k Es → Calls Tryz.prog 24 #[.agg #[.slice A n c, .slice B m k]] W fun e w' => e = .returned (.int .i64 (formD Vs Es)) ∧ Below W.heap.size W w' := fun W h => formR_eq Vs Es ▸ rform_any A n c Vs B m k Es W h (fun x hx => by have := hr x hx; omega) hg.lv hg.le
theorem may7_any (hr : ∀ x ∈ Vs, x.2.1.2.1 ≤ 1000000) (hg : GoodD Vs Es) : ∀ W, DgIn W A n c Vs B m k Es → Calls Tryz.prog 14 #[.agg #[.slice A n c, .slice B m k]] W fun e w' => e = .returned (.int .i64 (mayF7 Vs Es)) ∧ Below W.heap.size W w' := fun W h =>
  emay_any A n c Vs B m k Es (formD Vs Es) (genF Vs Es) W h (form7_any hr hg) (fun e => plan7_any ((form0 Vs Es).1 e) hg)
theorem rmay7b_any (hr : ∀ x ∈ Vs, x.2.1.2.1 ≤ 1000000) (hg : GoodD Vs Es) : ∀ W, DgIn W A n c Vs B m k Es → Calls Tryz.prog 12 #[.agg #[.slice A n c, .slice B m k]] W fun e w' => e = .returned (.int .i64 (mayF7 Vs Es)) ∧ Below W.heap.size W w' := fun W h =>
  rmay7_any A n c Vs B m k Es (formD Vs Es) (genF Vs Es) W h (rform7_any hr hg) (fun e => rgen7_any ((form0 Vs Es).1 e) hg)
end
theorem tw0_formed : Formed [] [] := (form0 _ _).1 (by kernel_rfl)
theorem tw0_gen : genF [] [] = 0 := by kernel_rfl
theorem tw0_good : GoodD [] [] := ⟨fun x hx => (by cases hx), fun x hx => (by cases hx), fun x hx => (by cases hx), fun x hx => (by cases hx)⟩
end Go.Proofs.YtahbfdhjgnlmdaaGreat

/- Examples of layer 7. -/
namespace Go.Proofs.YtahbfdhjgnlmdaaGreat
open Go.RowKit
set_option linter.unusedSimpArgs false
set_option linter.unusedVariables false

end Go.Proofs.YtahbfdhjgnlmdaaGreat

/- Examples of layer 7. -/
namespace Go.Proofs.YtahbfdhjgnlmdaaGreat
open Go.RowKit
set_option linter.unusedSimpArgs false
set_option linter.unusedVariables false

end Go.Proofs.YtahbfdhjgnlmdaaGreat

/- A diagram that may be, as bytes: numbers alone. -/
namespace Go.Proofs.YtahbfdhjgnlmdaaGreat
open Go.RowKit
set_option linter.unusedSimpArgs false
set_option linter.unusedVariables false

section
variable {Vs : List VC} {Es : List EC}
theorem may7_formed (h : mayF7 Vs Es = 0) : Formed Vs Es := by
  unfold mayF7 at h
  by_cases h0 : formD Vs Es = 0
  · exact (form0 Vs Es).1 h0
  · rw [if_neg h0] at h
    exact absurd h h0
theorem Formed.okE (h : Formed Vs Es) : ∀ e ∈ Es, okH e.1 e.2.1 e.2.2 := fun e he => by
  have h1 := ((riseF_iff _ _).1 h.re).1 e.1 (List.mem_map.2 ⟨e, he, rfl⟩)
  have h2 := List.all_eq_true.1 h.le e he
  have h3 := List.all_eq_true.1 h.ae e he
  simp only [mayL, Bool.and_eq_true, decide_eq_true_eq] at h2
  simp only [mayA, decide_eq_true_eq] at h3
  exact ⟨h1, by omega, by unfold In64; omega⟩
theorem Formed.okV (h : Formed Vs Es) (hr : ∀ v ∈ Vs, v.2.1.2.2.2.length < 256) : ∀ v ∈ Vs.map vS, okV Es v := fun v hv => by
  obtain ⟨u, hu, rfl⟩ := List.mem_map.1 hv
  have h1 := ((riseF_iff _ _).1 h.rv).1 u.1 (List.mem_map.2 ⟨u, hu, rfl⟩)
  have h2 := List.all_eq_true.1 h.lv u hu
  have h3 := List.all_eq_true.1 h.av u hu
  simp only [mayL, Bool.and_eq_true, decide_eq_true_eq] at h2
  simp only [mayA, decide_eq_true_eq] at h3
  refine ⟨⟨h1, by show u.2.2.1.size < 256; omega, by show In64 u.2.2.2; unfold In64; omega⟩, hr u hu, fun d hd => ?_⟩
  obtain ⟨e, he, q1, q2⟩ := h.of_dart hu hd
  exact ⟨List.mem_map.2 ⟨e, he, q1⟩, q2⟩
theorem Formed.ring (h : Formed Vs Es) : ∀ v ∈ Vs, v.2.1.2.2.2.length ≤ 80 := fun v hv => by
  have h1 := h.len
  have h2 := h.e40
  obtain ⟨i, hi, rfl⟩ := List.mem_iff_getElem.1 hv
  have h3 := rings_take Vs i Vs[i] (List.getElem?_eq_getElem hi)
  have h4 : (ringsOf (Vs.take (i + 1))).length ≤ (ringsOf Vs).length := by
    conv => rhs; rw [← List.take_append_drop (i + 1) Vs]
    rw [ringsOf_app, List.length_append]
    omega
  omega
theorem Formed.size (h : Formed Vs Es) : (∀ e ∈ Es, e.2.1.size ≤ 16) ∧ ∀ v ∈ Vs, v.2.2.1.size ≤ 16 := by
  refine ⟨fun e he => ?_, fun v hv => ?_⟩
  · have h2 := List.all_eq_true.1 h.le e he
    simp only [mayL, Bool.and_eq_true, decide_eq_true_eq] at h2
    exact h2.1
  · have h2 := List.all_eq_true.1 h.lv v hv
    simp only [mayL, Bool.and_eq_true, decide_eq_true_eq] at h2
    exact h2.1
/-- What was laid down is read as it was. -/
theorem Formed.read (h : Formed Vs Es) (R : List Nat) : rdAE (putD (Vs.map vS) Es ++ R) = Es ∧ rdAV (putD (Vs.map vS) Es ++ R) = Vs.map vS :=
  rd_put h.okE h.e40 (h.okV (fun v hv => by have := h.ring v hv; omega)) (by rw [List.length_map]; exact h.v24) R
/-- The places of the first edges. -/
def plM (Es : List EC) (i : Nat) (y : Int × Int) : Option Nat := if y ∈ (Es.take i).map (·.1) then some (plE Es y) else none
theorem plM_zero (Es : List EC) : plM Es 0 = fun _ => none := by funext y; simp [plM]
theorem plE_at (hn : (Es.map (·.1)).Nodup) {i : Nat} {e : EC} (he : Es[i]? = some e) : plE Es e.1 = i := by
  obtain ⟨hi, q⟩ := List.getElem?_eq_some_iff.1 he
  have h1 : (Es.map (·.1))[i]'(by rw [List.length_map]; exact hi) = e.1 := by rw [List.getElem_map, q]
  unfold plE
  rw [← h1, List.Nodup.idxOf_getElem hn]
theorem plM_next (hn : (Es.map (·.1)).Nodup) {i : Nat} {e : EC} (he : Es[i]? = some e) : (fun y => if y = e.1 then some i else plM Es i y) = plM Es (i + 1) := by
  funext y
  unfold plM
  rw [List.take_add_one, he, List.map_append]
  by_cases h : y = e.1
  · subst h
    simp [plE_at hn he]
  · rw [if_neg h]
    simp [h]
theorem plM_all (h : Formed Vs Es) {v : VC} (hv : v ∈ Vs) {d : D} (hd : d ∈ v.2.1.2.2.2) : plM Es Es.length (d.1, d.2.1) = some (plE Es (d.1, d.2.1)) := by
  obtain ⟨e, he, q1, q2⟩ := h.of_dart hv hd
  unfold plM
  rw [List.take_length, if_pos (List.mem_map.2 ⟨e, he, q1⟩)]
theorem plE_lt (h : Formed Vs Es) {v : VC} (hv : v ∈ Vs) {d : D} (hd : d ∈ v.2.1.2.2.2) : plE Es (d.1, d.2.1) < Es.length := by
  obtain ⟨e, he, q1, q2⟩ := h.of_dart hv hd
  have := List.idxOf_lt_length_of_mem (List.mem_map.2 ⟨e, he, q1⟩)
  rwa [List.length_map] at this
theorem headB_len (x : Int × Int) (s : ByteArray) (a : Int) : (headB x s a).length = 13 + s.size := by
  simp [headB, idB, textB, tB_len, be8_len]
  omega
theorem headB_lt (x : Int × Int) (s : ByteArray) (a : Int) : ∀ b ∈ headB x s a, b < 256 := fun b hb => by
  rcases List.mem_append.1 hb with q | q
  · exact idB_lt x b q
  · rcases List.mem_append.1 q with q | q
    · exact textB_lt s b q
    · exact be8_lt a b q
theorem putD_lt (Vs : List VS) (Es : List EC) : ∀ b ∈ putD Vs Es, b < 256 := fun b hb => by
  unfold putD at hb
  rcases List.mem_cons.1 hb with rfl | hb
  · omega
  rcases List.mem_append.1 hb with q | q
  · obtain ⟨e, -, q⟩ := List.mem_flatMap.1 q
    exact headB_lt _ _ _ b q
  rcases List.mem_cons.1 q with rfl | q
  · omega
  · obtain ⟨v, -, q⟩ := List.mem_flatMap.1 q
    rcases List.mem_append.1 q with q | q
    · exact headB_lt _ _ _ b q
    rcases List.mem_cons.1 q with rfl | q
    · omega
    · obtain ⟨d, -, rfl⟩ := List.mem_map.1 q
      unfold dB
      omega
theorem edges_len {c : Nat} : ∀ {L : List EC}, (∀ e ∈ L, e.2.1.size ≤ c) → (L.flatMap edB).length ≤ (13 + c) * L.length
  | [], _ => by simp
  | e :: L, h => by
    have h1 := edges_len (L := L) (fun x hx => h x (by simp [hx]))
    have h2 := h e (by simp)
    rw [List.flatMap_cons, List.length_append, List.length_cons, edB, headB_len, Nat.mul_succ]
    omega
theorem verts_len {Fs : List EC} : ∀ {L : List VS}, (∀ e ∈ L, e.2.2.1.size ≤ 16 ∧ e.2.1.length ≤ 80) → (L.flatMap (vtB Fs)).length ≤ 110 * L.length
  | [], _ => by simp
  | e :: L, h => by
    have h1 := verts_len (Fs := Fs) (L := L) (fun x hx => h x (by simp [hx]))
    have h2 := h e (by simp)
    rw [List.flatMap_cons, List.length_append, List.length_cons, vtB, List.length_append, headB_len, List.length_cons, List.length_map]
    omega
theorem putD_max (h : Formed Vs Es) : (putD (Vs.map vS) Es).length ≤ 4000 := by
  have h1 := edges_len (c := 16) h.size.1
  have h2 := verts_len (Fs := Es) (L := Vs.map vS) (fun e he => by
    obtain ⟨u, hu, rfl⟩ := List.mem_map.1 he
    exact ⟨h.size.2 u hu, h.ring u hu⟩)
  have h3 := h.e40
  have h4 := h.v24
  rw [List.length_map] at h2
  unfold putD
  rw [List.length_cons, List.length_append, List.length_cons]
  omega
end

end Go.Proofs.YtahbfdhjgnlmdaaGreat

/- pack.room. -/
namespace Go.Proofs.YtahbfdhjgnlmdaaGreat
open Go.RowKit
set_option linter.unusedSimpArgs false
set_option linter.unusedVariables false

theorem rows_get (L : List Nat) (j : Nat) : (rowsV f8 L)[j]? = (L[j]?).map (fun b : Nat => Value.int .u8 (b : Int)) := by rw [rowsV_map8, List.getElem?_map]
theorem rows8_len (L : List Nat) : (rowsV f8 L).length = L.length := by rw [rowsV_map8, List.length_map]
theorem rows8_app (L M : List Nat) : rowsV f8 (L ++ M) = rowsV f8 L ++ rowsV f8 M := by rw [rowsV_map8, rowsV_map8, rowsV_map8, List.map_append]
theorem rows8_set (L : List Nat) (j b : Nat) : (rowsV f8 L).set j (.int .u8 (b : Int)) = rowsV f8 (L.set j b) := by rw [rowsV_map8, rowsV_map8, List.map_set]
theorem made_u8 (N : Nat) : madeCells (Value.int .u8 0).cells N = (rowsV f8 (List.replicate N 0)).toArray := by
  apply Array.ext'
  rw [rowsV_map8, List.map_replicate]
  show (madeCells #[Value.int .u8 0] N).toList = _
  refine List.ext_getElem? fun j => ?_
  rw [List.getElem?_replicate]
  by_cases h : j < N
  · rw [if_pos h, Array.getElem?_toList, Array.getElem?_eq_getElem (by rw [size_madeCells]; exact h)]
    simp [madeCells, Nat.mod_one]
  · rw [if_neg h, Array.getElem?_toList, Array.getElem?_eq_none (by rw [size_madeCells]; omega)]
theorem make_u8 (N : Nat) (hN : N ≤ 100000000) (W : World) : (Instr.makeSlice 27 (.int .i64 (N : Int)) (.int .i64 (N : Int))).run Tryz.prog W = .ok (.slice (some ⟨W.heap.size, 0, none⟩) N N) (W.alloc (.cells (rowsV f8 (List.replicate N 0)).toArray 5)) := by
  obtain ⟨i0, hi, hz0, hz1, hz2⟩ := info_parts_ info_u8
  have h := run_make (P := Tryz.prog) W 27 5 i0 _ Tryz.underlying27 hi hz0 .i64 .i64 (N : Int) (N : Int) (by omega) (by omega) (by rw [hz2]; omega) (by omega)
  rw [hz1] at h
  simp only [Int.toNat_natCast, Nat.mul_one] at h
  rw [h, made_u8]
theorem splice_0 (L : List Nat) (m : Nat) : splice (rowsV f8 (List.replicate (L.length + m) 0)) 0 (rowsV f8 L) = rowsV f8 (L ++ List.replicate m 0) := by
  unfold splice
  rw [List.take_zero, List.nil_append, rows8_app, rows8_len, Nat.zero_add, rowsV_map8 (List.replicate _ _), rowsV_map8 (List.replicate _ _), List.map_replicate, List.map_replicate, List.drop_replicate, Nat.add_sub_cancel_left]
/-- A block of bytes that the call made is a row of its own. -/
theorem gives8_whole {w w' : World} {g : Nat} {L : List Nat} {N : Nat} (hN : L.length = N) (hm : N ≤ 100000000) (hg : w.heap.size ≤ g) (hw : Whole w' g 5 (rowsV f8 L)) (hb : Below w.heap.size w w') : Gives8 w L (.returned (.slice (some ⟨g, 0, none⟩) N N)) w' := by
  subst hN
  refine ⟨some ⟨g, 0, none⟩, L.length, rfl, RdS.of_whole8 hw (by rw [rows8_len, Nat.mul_one]), fun a ha _ => ?_, ?_, hb⟩
  · obtain rfl := Option.some.inj ha
    exact hg
  · exact own_mk (junk := []) (by rw [List.append_nil]; exact hw) hg (by rw [List.append_nil, rows8_len, Nat.mul_one]) (Nat.le_refl _) (by unfold maxLen; omega) (by rw [rows8_len, Nat.mul_one])
theorem RdS.src {W : World} {B n c : Nat} {A : Option Addr} {X : List Value} (h : RdS W B 1 A n c X) (h0 : 0 < X.length) : ∃ ad, A = some ad ∧ ∀ j v, X[j]? = some v → W.cell? (ad.add j) = some v := by
  cases A with
  | none => obtain ⟨h1, -⟩ := h.none_ rfl; have := h.len; omega
  | some a => exact ⟨a, rfl, h.cell a rfl⟩
set_option maxRecDepth 100000 in
set_option maxHeartbeats 1000000 in
theorem room_any (A : Option Addr) (c : Nat) (L : List Nat) (m : Nat) (w : World) (h : RdS w w.heap.size 1 A L.length c (rowsV f8 L)) (hn : L.length ≤ 1000000) (hm : m ≤ 1000000) :
    Calls Tryz.prog 26 #[.slice A L.length c, .int .i64 (m : Int)] w fun e w' => ∃ g, e = .returned (.slice (some ⟨g, 0, none⟩) (L.length + m) (L.length + m)) ∧ w.heap.size ≤ g ∧ Whole w' g 5 (rowsV f8 (L ++ List.replicate m 0)) ∧ Below w.heap.size w w' := by
  have HR := Lib.hid h
  have HL := Lib.hid (rows8_len L)
  have HSp := Lib.hid (splice_0 L m)
  have hw : IntKind.i64.wrap ((L.length : Int) + (m : Int)) = ((L.length + m : Nat) : Int) := by rw [IntWalk.i64_in _ (by omega)]; omega
  have hmk := make_u8 (L.length + m) (by omega)
  have hone := Lib.hid (f8_all L)
  obtain ⟨X, gX⟩ : ∃ X, rowsV f8 L = X := ⟨_, rfl⟩
  obtain ⟨Z, gZ⟩ : ∃ Z, rowsV f8 (List.replicate (L.length + m) 0) = Z := ⟨_, rfl⟩
  have HZl : RowKit.Hid (Z.length = L.length + m) := Lib.hid (by rw [← gZ, rows8_len, List.length_replicate])
  rw [gX] at HR HL HSp hone
  rw [gZ] at HSp hmk
  obtain ⟨n, gn⟩ : ∃ n, L.length = n := ⟨_, rfl⟩
  rw [gn] at HR HL hw hmk hn HZl ⊢
  obtain ⟨N, gN⟩ : ∃ N, n + m = N := ⟨_, rfl⟩
  rw [gN] at hw hmk HZl ⊢
  have Hle : RowKit.Hid (n ≤ N) := Lib.hid (by omega)
  clear h gX gZ gn gN
  go_enter Tryz.func26, Tryz.ntmps26
  have HW1 : RowKit.Hid (Whole (w.alloc (.cells Z.toArray 5)) w.heap.size 5 Z) := Lib.hid (Whole.new_ _ _ _)
  have HR1 := Lib.hid (HR.out.al (.cells Z.toArray 5))
  have HB1 := Lib.hid (below1 w (.cells Z.toArray 5))
  go_upto_region 2 with fail
  refine wp_region_lit ?_
  refine wl_read (v := ?_) (some 11) rfl (by rfl) ?_ ?_
  rotate_left
  · go_simp; (try with_reducible rfl)
  simp only [Act.put, List.setIfInBounds_toArray, List.set_cons_zero, List.set_cons_succ]
  refine wl_read (v := ?_) (some 12) rfl (by rfl) ?_ ?_
  rotate_left
  · go_simp; (try with_reducible rfl)
  simp only [Act.put, List.setIfInBounds_toArray, List.set_cons_zero, List.set_cons_succ]
  refine wpList_copy_splice rfl (.tmp 11) (.tmp 12) 27 27 rfl 5 Tryz.underlying27 (by kernel_rfl) _ _ _ _ _ _ rfl rfl w.heap.size 0 Z 5 HW1.out X (by rw [HL.out]; exact (Nat.min_eq_left Hle.out).symm) (fun h0 => ⟨rfl, HR1.out.src h0⟩) (by have := HL.out; have := Hle.out; have := HZl.out; omega) hone.out w.heap.size w HB1.out (Nat.le_refl _) ?_
  intro w2 HG2 hB2
  go_wp2
  go_ret
  exact ⟨w.heap.size, rfl, Nat.le_refl _, HSp.out ▸ HG2.out, hB2⟩

end Go.Proofs.YtahbfdhjgnlmdaaGreat

/- pack.Num. -/
namespace Go.Proofs.YtahbfdhjgnlmdaaGreat
open Go.RowKit
set_option linter.unusedSimpArgs false
set_option linter.unusedVariables false

theorem beN_cons : ∀ (k u : Nat), beN (k + 1) u = (u / 256 ^ k % 256) :: beN k u
  | 0, u => by simp [beN]
  | k + 1, u => by
    rw [beN, beN_cons k (u / 256), List.cons_append, Nat.div_div_eq_div_mul, ← Nat.pow_succ']
    rfl
/-- What stands in the row when k of the eight bytes are laid. -/
def btm (L : List Nat) (U k : Nat) : List Nat := L ++ (List.replicate (8 - k) 0 ++ beN k U)
theorem btm_len (L : List Nat) (U k : Nat) (hk : k ≤ 8) : (btm L U k).length = L.length + 8 := by simp [btm, beN_len]; omega
theorem btm_set (L : List Nat) (U k : Nat) (hk : k < 8) : (btm L U k).set (L.length + (7 - k)) (U / 256 ^ k % 256) = btm L U (k + 1) := by
  unfold btm
  rw [beN_cons, List.set_append, if_neg (by omega), Nat.add_sub_cancel_left]
  congr 1
  have e1 : 8 - k = (8 - (k + 1)) + 1 := by omega
  have e2 : 7 - k = 8 - (k + 1) := by omega
  rw [e1, e2, List.replicate_succ', List.append_assoc, List.set_append, if_neg (by rw [List.length_replicate]; omega), List.length_replicate, Nat.sub_self]
  rfl
theorem wrap_u64_ (x : Int) : IntKind.u64.wrap x = (u64 x : Int) := by
  rw [IntKind.wrap_u64]
  unfold u64
  omega
set_option maxRecDepth 100000 in
set_option maxHeartbeats 1000000 in
theorem num_any (A : Option Addr) (c : Nat) (L : List Nat) (x : Int) (w : World) (h : RdS w w.heap.size 1 A L.length c (rowsV f8 L)) (hn : L.length ≤ 900000) :
    Calls Tryz.prog 13 #[.slice A L.length c, .int .i64 x] w (Gives8 w (L ++ be8 x)) := by
  have HC := Lib.hid (room_any A c L 8 w h (by omega) (by omega))
  have hx := wrap_u64_ x
  obtain ⟨U, gU⟩ : ∃ U, u64 x = U := ⟨_, rfl⟩
  have e0 : L ++ List.replicate 8 0 = btm L U 0 := by simp [btm, beN]
  have e8 : L ++ be8 x = btm L U 8 := by unfold be8; rw [gU]; simp [btm]
  rw [e0] at HC
  rw [e8]
  rw [gU] at hx
  have Hlen := Lib.hid (btm_len L U)
  have Hset := Lib.hid (btm_set L U)
  have HU : RowKit.Hid (U < 18446744073709551616) := Lib.hid (by rw [← gU]; exact u64_lt x)
  have Hl8 : RowKit.Hid ((btm L U 8).length = L.length + 8) := Lib.hid (btm_len L U 8 (by omega))
  clear h e0 e8 gU
  obtain ⟨F, gF⟩ : ∃ F, btm L U = F := ⟨_, rfl⟩
  rw [gF] at HC Hlen Hset Hl8 ⊢
  obtain ⟨n, gn⟩ : ∃ n, L.length = n := ⟨_, rfl⟩
  rw [gn] at HC Hlen Hset hn Hl8 ⊢
  obtain ⟨N, gN⟩ : ∃ N, n + 8 = N := ⟨_, rfl⟩
  rw [gN] at HC Hlen Hl8
  have HN := Lib.hid gN
  have hsub : IntKind.i64.wrap ((N : Int) - 1) = ((n + 7 : Nat) : Int) := by rw [IntWalk.i64_in _ (by omega)]; omega
  obtain ⟨n7, gn7⟩ : ∃ n7, n + 7 = n7 := ⟨_, rfl⟩
  rw [gn7] at hsub
  have H7 := Lib.hid gn7
  clear gF gn gN gn7
  go_enter Tryz.func13, Tryz.ntmps13
  go_wp2_with (first | (go_at_call 26; refine HC.out.mono ?_; rintro e w2 ⟨g, rfl, hg, hw, hb⟩; have HG := Lib.hid hg; have HW := Lib.hid hw; have HB := Lib.hid hb; clear hg hw hb))
  clear hsub hx
  go_loopw [6, 7] (fun u i wr => ∃ k : Nat, k ≤ 8 ∧ u = .int .u64 ((U / 256 ^ k : Nat) : Int) ∧ i = .int .i64 ((n7 : Int) - (k : Int)) ∧ RowKit.Hid (Whole wr g 5 (rowsV f8 (F k))) ∧ RowKit.Hid (Below w.heap.size w wr)) (fun _ i _ => (intOf i + 1).toNat)
  case atStart => exact ⟨0, by omega, by simp, by simp, HW, HB⟩
  case round =>
    clear HW HB
    obtain ⟨k, hk, rfl, rfl, HW, HB⟩ := hrel
    by_cases hlt : k < 8
    · obtain ⟨j, gj⟩ : ∃ j : Nat, (n7 : Int) - (k : Int) = (j : Int) := ⟨n7 - k, by have := H7.out; omega⟩
      have Hj : RowKit.Hid (j = n + (7 - k)) := Lib.hid (by have := H7.out; omega)
      rw [gj]
      have hs := Hset.out k hlt
      obtain ⟨q, gq⟩ : ∃ q, U / 256 ^ k = q := ⟨_, rfl⟩
      have hq1 : U / 256 ^ (k + 1) = q / 256 := by rw [← gq, Nat.div_div_eq_div_mul, ← Nat.pow_succ]
      have Hq1 := Lib.hid hq1
      have hqU : q ≤ U := by rw [← gq]; exact Nat.div_le_self _ _
      rw [gq] at hs
      have Hs := Lib.hid hs
      rw [gq]
      have hw8 : IntKind.u8.wrap (q : Int) = ((q % 256 : Nat) : Int) := by rw [IntKind.wrap_u8]; omega
      have d1 : decide ((n : Int) ≤ (j : Int)) = true := decide_eq_true (by have := Hj.out; omega)
      have d2 : decide (n ≤ j) = true := decide_eq_true (by have := Hj.out; omega)
      have hjl : j < (F k).length := by rw [Hlen.out k hk]; have := Hj.out; have := HN.out; omega
      obtain ⟨b0, hb0⟩ : ∃ b, (F k)[j]? = some b := ⟨_, List.getElem?_eq_getElem hjl⟩
      have hjN : j < N := by have := Hj.out; have := HN.out; omega
      have hcell := HW.out.cell (i := j) (v := .int .u8 (b0 : Int)) (by rw [rows_get, hb0]; rfl)
      have hfree := HW.out.free j
      have hsb : IntKind.i64.wrap ((j : Int) - 1) = (j : Int) - 1 := IntWalk.i64_in _ (by have := Hj.out; omega)
      have hq64 : IntKind.u64.wrap ((q / 256 : Nat) : Int) = ((q / 256 : Nat) : Int) := by rw [IntKind.wrap_u64]; have := HU.out; omega
      clear gq hs hq1 hb0 hjl
      go_wp2
      go_roundw
      case rel => exact ⟨k + 1, by omega, by rw [Hq1.out, Int.natCast_ediv]; rfl, by go_num, Lib.hid (by have := HW.out.set_ j (.int .u8 ((q % 256 : Nat) : Int)); rw [rows8_set, Hj.out, Hs.out] at this; rw [Hj.out]; exact this), Lib.hid (HB.out.setCell (p := ⟨g, j, none⟩) HG.out _)⟩
      case measure => first | (simp [intOf]; done) | (simp [intOf]; omega)
    · obtain rfl : k = 8 := by omega
      have d1 : decide ((n : Int) ≤ (n7 : Int) - 8) = false := decide_eq_false (by have := H7.out; omega)
      go_wp2
      go_ret
      exact gives8_whole Hl8.out (by have := HN.out; omega) HG.out HW.out HB.out

end Go.Proofs.YtahbfdhjgnlmdaaGreat

/- pack.Text. -/
namespace Go.Proofs.YtahbfdhjgnlmdaaGreat
open Go.RowKit
set_option linter.unusedSimpArgs false
set_option linter.unusedVariables false

theorem tB_data (s : ByteArray) : tB s = s.data.toList.map UInt8.toNat := by rw [tB, ByteArray.toList_eq]
theorem str_rows (s : ByteArray) : Lib.strCells s = rowsV f8 (tB s) := by
  rw [rowsV_map8, tB_data, Lib.strCells, List.map_map]
  rfl
theorem exec_copy {P : Program} {ev : Operand → Value} {o : Oper} {w w' : World} (d s : Operand) (dT sT : TypeId) (ho : o.op = .call { callee := .builtin .copy, args := #[d, s], argTypes := #[dT, sT] }) {x y v : Value} (hd : ev d = x) (hs : ev s = y)
    (hrun : (Builtin.copy_ #[dT, sT] o.type #[x, y]).run P w = .ok v w') : (execOp ev o).run P w = .ok (.value v) w' := by
  unfold execOp
  simp [ho, resolve, invoke, builtin, hd, hs, hrun, Result.andThen]
/-- A text copied to the end of a row. -/
theorem copy_str (ty : TypeId) {w : World} {g N p : Nat} {M : List Nat} {A : Option Addr} {c : Nat} (s : ByteArray) (hw : Whole w g 5 (rowsV f8 M)) (hM : M.length = N) (hp : p + s.size = N) (hA : (if N = p then some (⟨g, 0, none⟩ : Addr) else (some (⟨g, 0, none⟩ : Addr)).map (·.add (p * 1))) = A) {w0 : World} {B : Nat} (hb : Below B w0 w) (hB : B ≤ g) :
    ∃ w', (Builtin.copy_ #[27, 9] ty #[.slice A s.size c, .string s]).run Tryz.prog w = .ok (goInt s.size) w' ∧ Whole w' g 5 (rowsV f8 (M.take p ++ tB s)) ∧ Below B w0 w' := by
  obtain ⟨i0, hi, hz0, hz1, hz2⟩ := info_parts_ info_u8
  by_cases h0 : N = p
  · rw [if_pos h0] at hA
    obtain rfl := hA
    have hs : s.size = 0 := by omega
    have ht : tB s = [] := List.eq_nil_of_length_eq_zero (by rw [tB_len, hs])
    refine ⟨w, ?_, by rw [ht, List.append_nil, List.take_of_length_le (by omega)]; exact hw, hb⟩
    simp [Builtin.copy_, run_underlying (Tryz.underlying27), Builtin.lenOf, Builtin.firstCells, sizeOf, typeInfo, hi, hz1, hs, storeCells]
  · rw [if_neg h0] at hA
    have e : (some (⟨g, 0, none⟩ : Addr)).map (·.add (p * 1)) = some (⟨g, p, none⟩ : Addr) := by simp only [Option.map_some, Addr.add_lit, Nat.mul_one, Nat.zero_add]
    rw [e] at hA
    obtain rfl := hA
    have hst := run_storeCells_at Tryz.prog g p 5 (Lib.strCells s) 0 (rowsV f8 M).toArray w hw (by simp [rows8_len, Lib.strCells_length]; omega) (Lib.strCells_oneCell s)
    have hf := Lib.run_firstCells_string (P := Tryz.prog) w 1 s
    simp only [Nat.add_zero, Lib.strCells_length] at hst
    have hd : (rowsV f8 M).toArray.toList.drop (p + s.size) = [] := List.drop_eq_nil_of_le (by simp [rows8_len]; omega)
    rw [hd, List.append_nil, str_rows, show ((rowsV f8 M).toArray.toList.take p ++ rowsV f8 (tB s)).toArray = (rowsV f8 (M.take p ++ tB s)).toArray from by rw [rows8_app, rowsV_map8 M, rowsV_map8 (M.take p), List.map_take]] at hst
    refine ⟨_, ?_, Whole.row hw (rowsV f8 (M.take p ++ tB s)), below_setRow hb hB _⟩
    simp only [str_rows] at hf
    simp [Builtin.copy_, run_underlying (Tryz.underlying27), Builtin.lenOf, sizeOf, typeInfo, hi, hz1, hf, hst]
set_option maxRecDepth 100000 in
set_option maxHeartbeats 1000000 in
theorem text_any (A : Option Addr) (c : Nat) (L : List Nat) (s : ByteArray) (w : World) (h : RdS w w.heap.size 1 A L.length c (rowsV f8 L)) (hn : L.length ≤ 900000) (hs : s.size ≤ 900000) :
    Calls Tryz.prog 29 #[.slice A L.length c, .string s] w (Gives8 w (L ++ textB s)) := by
  obtain ⟨S, gS⟩ : ∃ S, s.size = S := ⟨_, rfl⟩
  have HC := Lib.hid (room_any A c L (1 + S) w h (by omega) (by omega))
  have hw1 : IntKind.i64.wrap (1 + (S : Int)) = ((1 + S : Nat) : Int) := by rw [IntWalk.i64_in _ (by omega)]; omega
  have hw8 : IntKind.u8.wrap (S : Int) = ((S % 256 : Nat) : Int) := by rw [IntKind.wrap_u8]; omega
  have HE : RowKit.Hid (((L ++ List.replicate (1 + S) 0).set L.length (S % 256)).take (L.length + 1) ++ tB s = L ++ textB s) := Lib.hid (by
    rw [List.set_append, if_neg (by omega), Nat.sub_self, Nat.add_comm 1 S, List.replicate_succ, List.set_cons_zero, textB, gS]
    rw [List.take_append, List.take_of_length_le (by omega), Nat.add_sub_cancel_left, List.take_succ_cons, List.take_zero, List.append_assoc])
  have Hl : RowKit.Hid ((L ++ textB s).length = L.length + (1 + S)) := Lib.hid (by simp [textB, tB_len, gS]; omega)
  have Hs : RowKit.Hid (s.size = S) := Lib.hid gS
  have hsz : (s.size : Int) = (S : Int) := by rw [gS]
  obtain ⟨E, gE⟩ : ∃ E, L ++ textB s = E := ⟨_, rfl⟩
  rw [gE] at HE Hl ⊢
  obtain ⟨M0, gM0⟩ : ∃ M0, L ++ List.replicate (1 + S) 0 = M0 := ⟨_, rfl⟩
  have HM0 : RowKit.Hid (M0.length = L.length + (1 + S)) := Lib.hid (by rw [← gM0]; simp)
  rw [gM0] at HC HE
  obtain ⟨n, gn⟩ : ∃ n, L.length = n := ⟨_, rfl⟩
  rw [gn] at HC HE Hl HM0 hn ⊢
  obtain ⟨m, gm⟩ : ∃ m, 1 + S = m := ⟨_, rfl⟩
  rw [gm] at HC Hl HM0 hw1
  have Hm := Lib.hid gm
  obtain ⟨N, gN⟩ : ∃ N, n + m = N := ⟨_, rfl⟩
  rw [gN] at HC Hl HM0
  have HN := Lib.hid gN
  have hw2 : IntKind.i64.wrap ((n : Int) + 1) = ((n + 1 : Nat) : Int) := by rw [IntWalk.i64_in _ (by omega)]; omega
  have hnN : n < N := by omega
  have hnN2 : (n : Int) < (N : Int) := by omega
  have hNb : N ≤ 100000000 := by omega
  obtain ⟨S8, gS8⟩ : ∃ z, S % 256 = z := ⟨_, rfl⟩
  rw [gS8] at HE hw8
  clear h gE gM0 gn gm gN gS hs gS8
  go_enter Tryz.func29, Tryz.ntmps29
  go_upto_region 2 with (first | (go_at_call 26; refine HC.out.mono ?_; rintro e w2 ⟨g, rfl, hg, hw, hb⟩; have HG := Lib.hid hg; have HW := Lib.hid hw; have HB := Lib.hid hb; clear hg hw hb))
  clear hw1
  obtain ⟨b0, hb0⟩ : ∃ b, M0[n]? = some b := ⟨_, List.getElem?_eq_getElem (by rw [HM0.out]; exact hnN)⟩
  have hcell := HW.out.cell (i := n) (v := .int .u8 (b0 : Int)) (by rw [rows_get, hb0]; rfl)
  have hfree := HW.out.free n
  clear hb0
  go_upto_region 3 with fail
  have HW2 : RowKit.Hid (Whole (w2.setCell ⟨g, n, none⟩ (.int .u8 (S8 : Int))) g 5 (rowsV f8 (M0.set n S8))) := Lib.hid (by have := HW.out.set_ n (.int .u8 (S8 : Int)); rwa [rows8_set] at this)
  have HB2 := Lib.hid (HB.out.setCell (p := ⟨g, n, none⟩) HG.out (.int .u8 (S8 : Int)))
  obtain ⟨w3, gw3⟩ : ∃ z, w2.setCell ⟨g, n, none⟩ (.int .u8 (S8 : Int)) = z := ⟨_, rfl⟩
  rw [gw3] at HW2 HB2 ⊢
  clear gw3 HW HB hcell hfree
  obtain ⟨A1, hA1⟩ : ∃ A1, (if N = n + 1 then some (⟨g, 0, none⟩ : Addr) else (some (⟨g, 0, none⟩ : Addr)).map (·.add ((n + 1) * 1))) = A1 := ⟨_, rfl⟩
  have hNS : n + 1 + s.size = N := by have := Hm.out; have := HN.out; have := Hs.out; omega
  have hNS2 : N - (n + 1) = s.size := by omega
  obtain ⟨w4, hrun, hw4, hb4⟩ := copy_str (c := N - (n + 1)) 3 s HW2.out (by rw [List.length_set]; exact HM0.out) hNS hA1 HB2.out HG.out
  have HW4 := Lib.hid hw4
  have HB4 := Lib.hid hb4
  rw [HE.out] at HW4
  refine wp_region_lit ?_
  refine wl_read (v := ?_) (some 18) rfl (by rfl) ?_ ?_
  rotate_left
  · go_simp; (try with_reducible rfl)
  simp only [Act.put, List.setIfInBounds_toArray, List.set_cons_zero, List.set_cons_succ]
  refine wl_read (v := ?_) (some 19) rfl (by rfl) ?_ ?_
  rotate_left
  · go_simp; (try with_reducible rfl)
  simp only [Act.put, List.setIfInBounds_toArray, List.set_cons_zero, List.set_cons_succ]
  refine wl_read (v := ?_) (some 20) rfl (by rfl) ?_ ?_
  rotate_left
  · go_simp; (try with_reducible rfl)
  simp only [Act.put, List.setIfInBounds_toArray, List.set_cons_zero, List.set_cons_succ]
  refine wl_read (v := ?_) (some 21) rfl (by rfl) ?_ ?_
  rotate_left
  · go_simp; (try with_reducible rfl)
  simp only [Act.put, List.setIfInBounds_toArray, List.set_cons_zero, List.set_cons_succ]
  refine wl_run (some 22) rfl (by rfl) (exec_slice_low_as 27 5 (.tmp 18) (.tmp 21) rfl Tryz.underlying27 (s := 1) (by kernel_rfl) rfl (by rfl) (by omega) hA1 hNS2 rfl) ?_
  simp only [Act.put, List.setIfInBounds_toArray, List.set_cons_zero, List.set_cons_succ]
  refine wl_read (v := ?_) (some 23) rfl (by rfl) ?_ ?_
  rotate_left
  · go_simp; (try with_reducible rfl)
  simp only [Act.put, List.setIfInBounds_toArray, List.set_cons_zero, List.set_cons_succ]
  refine wl_run (some 24) rfl (by rfl) (exec_copy (.tmp 22) (.tmp 23) 27 9 rfl rfl rfl hrun) ?_
  clear hrun hw4 hb4
  go_wp2
  go_ret
  exact gives8_whole Hl.out hNb HG.out HW4.out HB4.out

end Go.Proofs.YtahbfdhjgnlmdaaGreat

/- pack.number, TakeNum. -/
namespace Go.Proofs.YtahbfdhjgnlmdaaGreat
open Go.RowKit
set_option linter.unusedSimpArgs false
set_option linter.unusedVariables false

theorem ofInt_64 (a : Nat) (ha : a < 18446744073709551616) : (BitVec.ofInt 64 (a : Int)).toNat = a := by
  rw [BitVec.ofInt_natCast, BitVec.toNat_ofNat]; exact Nat.mod_eq_of_lt (by omega)
theorem u64_or_byte (x b : Nat) (hx : x < 72057594037927936) (hb : b < 256) : bits .or .u64 ((x : Int) * 256) (b : Int) = ((x * 256 + b : Nat) : Int) := by
  have e : ((x : Int) * 256) = ((2 ^ 8 * x : Nat) : Int) := by omega
  rw [e]
  show IntKind.u64.wrap ((BitVec.ofInt 64 ((2 ^ 8 * x : Nat) : Int) ||| BitVec.ofInt 64 (b : Int)).toNat : Int) = _
  rw [BitVec.toNat_or, ofInt_64 _ (by omega), ofInt_64 b (by omega), ← Nat.two_pow_add_eq_or_of_lt (by omega) x, IntKind.wrap_u64]
  omega
/-- The byte at a place. -/
theorem byte_at {W : World} {B n c : Nat} {A : Option Addr} {L : List Nat} (h : RdS W B 1 A n c (rowsV f8 L)) (hn : 0 < n) : ∃ bb off, A = some ⟨bb, off, none⟩ ∧ bb < B ∧ ∀ (j b : Nat), L[j]? = some b → W.cell? ⟨bb, off + j, none⟩ = some (.int .u8 (b : Int)) := by
  obtain ⟨bb, off, rfl, hb, hp⟩ := h.place f8_len (by decide) hn
  refine ⟨bb, off, rfl, hb, fun j b hj => ?_⟩
  have := hp j b hj 0 _ rfl
  rw [Addr.add_lit] at this
  simpa using this
set_option maxRecDepth 100000 in
set_option maxHeartbeats 1000000 in
theorem number_any (A : Option Addr) (n c : Nat) (L : List Nat) (w : World) (h : RdS w w.heap.size 1 A n c (rowsV f8 L)) (hn : 8 ≤ n) (hb : ∀ b ∈ L, b < 256) :
    Calls Tryz.prog 58 #[.slice A n c] w fun e w' => e = .returned (.int .i64 (num8 (L.take 8))) ∧ w = w' := by
  obtain ⟨bb, off, rfl, -, hp⟩ := byte_at h (by omega)
  have hl := h.rlen f8_len (by decide)
  have hc := h.le
  have Hp := Lib.hid hp
  have Hb := Lib.hid hb
  have Hlt := Lib.hid (fun k hk => deN_lt hb k hk)
  unfold num8
  obtain ⟨x, gx⟩ : ∃ x, IntKind.i64.wrap ((deN (L.take 8) : Nat) : Int) = x := ⟨_, rfl⟩
  rw [gx]
  have Gx := Lib.hid gx
  clear h hp hb gx
  go_enter Tryz.func58, Tryz.ntmps58
  go_wp2
  go_loop [3, 9] (fun u i => ∃ k : Nat, k ≤ 8 ∧ u = .int .u64 ((deN (L.take k) : Nat) : Int) ∧ i = .int .i64 (k : Int)) (fun _ i => 8 - (intOf i).toNat)
  case atStart => exact ⟨0, by omega, by simp [deN], by simp⟩
  case round =>
    obtain ⟨k, hk, rfl, rfl⟩ := hrel
    by_cases hlt : k < 8
    · obtain ⟨b, hbk⟩ : ∃ b, L[k]? = some b := ⟨_, List.getElem?_eq_getElem (by omega)⟩
      have l0 := Hp.out k b hbk
      have hb6 : b < 256 := Hb.out b (List.mem_of_getElem? hbk)
      have hd : deN (L.take (k + 1)) = deN (L.take k) * 256 + b := by rw [take_snoc_ L k b hbk, deN_snoc]
      have hdl : deN (L.take k) < 72057594037927936 := by
        have h1 := Hlt.out k (by omega)
        have h2 : 256 ^ k ≤ 256 ^ 7 := Nat.pow_le_pow_right (by omega) (by omega)
        omega
      obtain ⟨X, gX⟩ : ∃ X, deN (L.take k) = X := ⟨_, rfl⟩
      rw [gX] at hd hdl ⊢
      have Hd := Lib.hid hd
      have ho := u64_or_byte X b hdl hb6
      have hw1 : IntKind.u64.wrap ((X : Int) * 256) = (X : Int) * 256 := by rw [IntKind.wrap_u64]; omega
      have hw2 : IntKind.u64.wrap (b : Int) = (b : Int) := by rw [IntKind.wrap_u64]; omega
      have hk8 : (k : Int) < 8 := by omega
      clear gX hd hbk
      go_wp2
      refine ⟨⟨k + 1, by omega, ?_, by go_num⟩, by simp [intOf]; omega⟩
      rw [Hd.out]
      exact congrArg (Value.int .u64) (by omega)
    · obtain rfl : k = 8 := by omega
      have hwx := Gx.out
      obtain ⟨X, gX⟩ : ∃ X, deN (L.take 8) = X := ⟨_, rfl⟩
      rw [gX] at hwx ⊢
      clear gX
      go_wp2
      go_ret
      exact ⟨rfl, rfl⟩

end Go.Proofs.YtahbfdhjgnlmdaaGreat

/- ident.Put; pack.head. -/
namespace Go.Proofs.YtahbfdhjgnlmdaaGreat
open Go.RowKit
set_option linter.unusedSimpArgs false
set_option linter.unusedVariables false

theorem exec_makeSlice {P : Program} {ev : Operand → Value} {o : Oper} {w w' : World} (t : TypeId) (l c : Operand) (ho : o.op = .makeSlice t l c) {x y v : Value} (hl : ev l = x) (hc : ev c = y)
    (hrun : (Instr.makeSlice t x y).run P w = .ok v w') : (execOp ev o).run P w = .ok (.value v) w' := by
  unfold execOp
  simp only [ho, hl, hc, Sem.run_bind, Sem.run_pure, Result.andThen_ok, hrun]
/-- A row of one's own is what a call gives. -/
theorem gives8_ow {w w' : World} {L : List Nat} {N : Nat} {v : Value} (hN : L.length = N) (h : Ow w w.heap.size 5 1 v N (rowsV f8 L) w') : ∃ A c, v = .slice A N c ∧ Gives8 w L (.returned (.slice A N c)) w' := by
  subst hN
  obtain ⟨A, c, rfl, hr⟩ := h.rds
  exact ⟨A, c, rfl, A, c, rfl, hr, fun a ha _ => by subst ha; exact (h.own.lt a.block rfl).1, h.own, h.below⟩
set_option maxRecDepth 100000 in
set_option maxHeartbeats 1000000 in
theorem idput_any (A : Option Addr) (c : Nat) (L : List Nat) (x1 x2 : Int) (w : World) (h : RdS w w.heap.size 1 A L.length c (rowsV f8 L)) (hn : L.length ≤ 900000) :
    Calls Tryz.prog 30 #[.slice A L.length c, .agg #[.int .i64 x1, .int .i64 x2]] w (Gives8 w (L ++ idB (x1, x2))) := by
  obtain ⟨i0, hi, hz0, hz1, hz2⟩ := info_parts_ info_u8
  have HR := Lib.hid h
  obtain ⟨n, gn⟩ : ∃ n, L.length = n := ⟨_, rfl⟩
  have Gn := Lib.hid gn
  rw [gn] at HR hn ⊢
  have hw4 : IntKind.i64.wrap ((n : Int) + 4) = ((n + 4 : Nat) : Int) := by rw [IntWalk.i64_in _ (by omega)]; omega
  obtain ⟨n4, gn4⟩ : ∃ z, n + 4 = z := ⟨_, rfl⟩
  rw [gn4] at hw4
  have HX1 : RowKit.Hid (Whole (w.alloc (.cells #[.int .i64 x1, .int .i64 x2] 41)) w.heap.size 41 [.int .i64 x1, .int .i64 x2]) := Lib.hid (Whole.new_ _ _ [_, _])
  have HR1 := Lib.hid (HR.out.al (.cells #[.int .i64 x1, .int .i64 x2] 41))
  have HB1 := Lib.hid (below1 w (.cells #[.int .i64 x1, .int .i64 x2] 41))
  have Hone := Lib.hid (f8_all L)
  clear h gn
  go_enter Tryz.func30, Tryz.ntmps30
  go_upto_region 1 with fail
  obtain ⟨w1, gw1⟩ : ∃ z, w.alloc (.cells #[.int .i64 x1, .int .i64 x2] 41) = z := ⟨_, rfl⟩
  rw [gw1] at HX1 HR1 HB1 ⊢
  clear gw1
  refine wp_region_lit ?_
  refine wl_read (v := ?_) (some 6) rfl (by rfl) ?_ ?_
  rotate_left
  · go_simp; (try with_reducible rfl)
  simp only [Act.put, List.setIfInBounds_toArray, List.set_cons_zero, List.set_cons_succ]
  refine wl_read (v := ?_) (some 7) rfl (by rfl) ?_ ?_
  rotate_left
  · go_simp; (try with_reducible rfl)
  simp only [Act.put, List.setIfInBounds_toArray, List.set_cons_zero, List.set_cons_succ]
  refine wl_read (v := ?_) (some 8) rfl (by rfl) ?_ ?_
  rotate_left
  · go_simp; (try with_reducible rfl)
  simp only [Act.put, List.setIfInBounds_toArray, List.set_cons_zero, List.set_cons_succ]
  obtain ⟨w2, hrun, hown, hgr⟩ := run_make_own (P := Tryz.prog) w1 w1.heap.size 27 5 i0 _ 1 Tryz.underlying27 hi hz0 hz1 .i64 .i64 n4 (by rw [hz2]; omega) (by unfold maxLen; omega) (Nat.le_refl _)
  refine wl_run (some 9) rfl (by rfl) (exec_makeSlice 27 _ _ rfl (by rfl) (by rfl) hrun) ?_
  simp only [Act.put, List.setIfInBounds_toArray, List.set_cons_zero, List.set_cons_succ]
  have HP0 : RowKit.Hid (Ow w1 w1.heap.size 5 1 (.slice (some ⟨w1.heap.size, 0, none⟩) 0 n4) 0 [] w2) := Lib.hid ⟨hown, (Below.refl _ _).grown hgr (Nat.le_refl _) (fun k e => by cases e), Nat.le_refl _, hgr.size⟩
  have HR2 := Lib.hid (HR1.out.bl HP0.out.below)
  have HX2 := Lib.hid (HX1.out.bl HP0.out.below)
  obtain ⟨b0, gb0⟩ : ∃ z, w.heap.size = z := ⟨_, rfl⟩
  rw [gb0] at HX1 HX2 ⊢
  have Gb0 := Lib.hid gb0
  clear hrun hown hgr hw4 gn4 gb0
  go_upto_region 3 with (first
    | (at_builtin
       refine wpList_push2 rfl (.tmp 10) (.tmp 11) _ rfl _ 5 i0 _ 1 1 Tryz.underlying27 hi hz0 hz1 hz2 rfl (by decide) _ _ _ rfl HP0.out _ _ _ _ _ rfl HR2.out Hone.out (by unfold maxLen; omega) (by omega) ?_
       intro v1 w3 how1 hb1 hgr1
       rw [Nat.zero_add, List.nil_append] at how1
       have HP1 := Lib.hid how1
       have HX3 := Lib.hid (HX1.out.bl HP1.out.below)
       clear how1 hb1 hgr1))
  have c0 := HX3.out.cell (i := 0) rfl
  have c1 := HX3.out.cell (i := 1) rfl
  have u1 : IntKind.u8.wrap x1 = (((x1 % 256).toNat : Nat) : Int) := by rw [IntKind.wrap_u8]; omega
  have u2 : IntKind.u8.wrap (x2 / 65536) = (((x2 / 65536 % 256).toNat : Nat) : Int) := by rw [IntKind.wrap_u8]; omega
  have u3 : IntKind.u8.wrap (x2 / 256) = (((x2 / 256 % 256).toNat : Nat) : Int) := by rw [IntKind.wrap_u8]; omega
  have u4 : IntKind.u8.wrap x2 = (((x2 % 256).toNat : Nat) : Int) := by rw [IntKind.wrap_u8]; omega
  have hl : (L ++ idB (x1, x2)).length = n + 4 := by rw [List.length_append, Gn.out]; rfl
  have hrows : rowsV f8 L ++ [.int .u8 (((x1 % 256).toNat : Nat) : Int), .int .u8 (((x2 / 65536 % 256).toNat : Nat) : Int), .int .u8 (((x2 / 256 % 256).toNat : Nat) : Int), .int .u8 (((x2 % 256).toNat : Nat) : Int)] = rowsV f8 (L ++ idB (x1, x2)) := by rw [rows8_app]; rfl
  obtain ⟨q1, g1⟩ : ∃ z, (x1 % 256).toNat = z := ⟨_, rfl⟩
  obtain ⟨q2, g2⟩ : ∃ z, (x2 / 65536 % 256).toNat = z := ⟨_, rfl⟩
  obtain ⟨q3, g3⟩ : ∃ z, (x2 / 256 % 256).toNat = z := ⟨_, rfl⟩
  obtain ⟨q4, g4⟩ : ∃ z, (x2 % 256).toNat = z := ⟨_, rfl⟩
  rw [g1] at u1 hrows
  rw [g2] at u2 hrows
  rw [g3] at u3 hrows
  rw [g4] at u4 hrows
  have Hrows := Lib.hid hrows
  have Hl := Lib.hid hl
  clear hrows hl g1 g2 g3 g4 HX1 HX2
  go_wp2_with (first
    | (at_builtin
       refine wpList_push2 rfl (.tmp 13) (.tmp 28) _ rfl _ 5 i0 _ 1 1 Tryz.underlying27 hi hz0 hz1 hz2 rfl (by decide) _ _ _ rfl (by exact Ow.up HP1.out (below1 _ _)) _ (some ⟨w3.heap.size, 0, none⟩) 4 4 ([.int .u8 (q1 : Int), .int .u8 (q2 : Int), .int .u8 (q3 : Int), .int .u8 (q4 : Int)]) rfl (by exact RdS.new_ rfl (Nat.lt_succ_self _) rfl rfl) (by simp [Value.oneCell']) (by unfold maxLen; omega) (by omega) ?_
       intro v1 w5 how1 hb1 hgr1
       rw [Hrows.out] at how1
       have HP2 := Lib.hid how1
       clear how1 hb1 hgr1))
  obtain ⟨A9, c9, rfl, hG⟩ := gives8_ow Hl.out ⟨own_lo8 HP2.out.own (by have := HB1.out.size; omega), HB1.out.trans (HP2.out.below.mono HB1.out.size), Nat.le_refl _, (HB1.out.trans (HP2.out.below.mono HB1.out.size)).size⟩
  go_ret
  exact hG

end Go.Proofs.YtahbfdhjgnlmdaaGreat

/- pack.head. -/
namespace Go.Proofs.YtahbfdhjgnlmdaaGreat
open Go.RowKit
set_option linter.unusedSimpArgs false
set_option linter.unusedVariables false

set_option maxRecDepth 100000 in
set_option maxHeartbeats 1000000 in
theorem head_any (x1 x2 : Int) (s : ByteArray) (a : Int) (w : World) (hs : s.size ≤ 100000) :
    Calls Tryz.prog 15 #[.agg #[.int .i64 x1, .int .i64 x2], .string s, .int .i64 a] w (Gives8 w (headB (x1, x2) s a)) := by
  have HX1 : RowKit.Hid (Whole (w.alloc (.cells #[.int .i64 x1, .int .i64 x2] 41)) w.heap.size 41 [.int .i64 x1, .int .i64 x2]) := Lib.hid (Whole.new_ _ _ [_, _])
  have HB1 := Lib.hid (below1 w (.cells #[.int .i64 x1, .int .i64 x2] 41))
  have HA := Lib.hid (fun W => idput_any none 0 [] x1 x2 W (rds_nil W W.heap.size 1) (by simp))
  have hl1 : ([] ++ idB (x1, x2)).length = 4 := rfl
  have HT := Lib.hid (fun (A : Option Addr) (c : Nat) W h => text_any A c ([] ++ idB (x1, x2)) s W h (by rw [hl1]; omega) (by omega))
  obtain ⟨L2, gL2⟩ : ∃ z, [] ++ idB (x1, x2) ++ textB s = z := ⟨_, rfl⟩
  have hl2 : L2.length ≤ 900000 := by rw [← gL2]; simp [idB, textB, tB_len]; omega
  have HN := Lib.hid (fun (A : Option Addr) (c : Nat) W h => num_any A c L2 a W h hl2)
  have e3 : L2 ++ be8 a = headB (x1, x2) s a := by rw [← gL2, headB, List.nil_append, List.append_assoc]
  rw [e3] at HN
  rw [gL2] at HT
  rw [hl1] at HT
  obtain ⟨L1, gL1⟩ : ∃ z, [] ++ idB (x1, x2) = z := ⟨_, rfl⟩
  rw [gL1] at HA HT hl1
  have Hl1 := Lib.hid hl1
  obtain ⟨L3, gL3⟩ : ∃ z, headB (x1, x2) s a = z := ⟨_, rfl⟩
  rw [gL3] at HN ⊢
  clear gL1 gL2 gL3 e3 hl1 hl2 hs
  go_enter Tryz.func15, Tryz.ntmps15
  go_upto_region 1 with fail
  have c0 := HX1.out.cell (i := 0) rfl
  have c1 := HX1.out.cell (i := 1) rfl
  go_wp2_with (first
    | (go_at_call 30
       refine (HA.out _).mono ?_
       rintro e w2 ⟨A2, c2, rfl, hr2, -, -, hb2⟩
       have HR2 := Lib.hid hr2
       have HB2 : RowKit.Hid (Below w.heap.size w w2) := Lib.hid (Ext.trans HB1.out hb2)
       rw [Hl1.out] at HR2 ⊢
       clear hr2 hb2 c0 c1)
    | (go_at_call 29
       refine (HT.out A2 c2 _ HR2.out).mono ?_
       rintro e w3 ⟨A3, c3, rfl, hr3, -, -, hb3⟩
       have HR3 := Lib.hid hr3
       have HB3 : RowKit.Hid (Below w.heap.size w w3) := Lib.hid (Ext.trans HB2.out hb3)
       clear hr3 hb3)
    | (go_at_call 13
       refine (HN.out A3 c3 _ HR3.out).mono ?_
       rintro e w4 ⟨A4, c4, rfl, hr4, hn4, ho4, hb4⟩
       have HG : RowKit.Hid (Gives8 w L3 (.returned (.slice A4 L3.length c4)) w4) := Lib.hid ⟨A4, c4, rfl, hr4, fun a ha h0 => Nat.le_trans HB3.out.size (hn4 a ha h0), own_lo8 ho4 HB3.out.size, Ext.trans HB3.out hb4⟩
       clear hr4 hn4 ho4 hb4))
  go_ret
  exact HG.out

end Go.Proofs.YtahbfdhjgnlmdaaGreat

/- pack.Put. -/
namespace Go.Proofs.YtahbfdhjgnlmdaaGreat
open Go.RowKit
set_option linter.unusedSimpArgs false
set_option linter.unusedVariables false

theorem own_ne_map {W : World} {lo kk n c b q : Nat} {T : TypeId} {A : Option Addr} {xs : List Value} {e : I2 → Option Nat} (h : W.ownsRow lo T kk (.slice A n c) n xs) (hm : EndsM W b q e) : some b ≠ (Value.slice A n c).ownBlock := by
  intro e0
  obtain ⟨D, h0, h2⟩ := hm
  obtain ⟨es, clock, h1, F, hs, hD⟩ := h0
  rcases h.2 with ⟨h3, h4⟩ | ⟨g, cap, cur, h3, hb, hg, hnc, hcm, hcs, ht⟩
  · rw [h3] at e0
    cases e0
  · rw [h3] at e0
    obtain rfl : b = g := Option.some.inj e0
    rw [h1] at hg
    cases hg
/-- Bytes appended onto a row of one's own. -/
theorem app8 {w W : World} {A A' : Option Addr} {n c m c' : Nat} {X L : List Nat} (ty : TypeId) (ho : Ow w w.heap.size 5 1 (.slice A n c) n (rowsV f8 X) W) (hr : RdS W W.heap.size 1 A' m c' (rowsV f8 L)) (hn : n + m ≤ 1000000) :
    ∃ A2 c2 W', (Builtin.append_ #[27, 27] ty #[.slice A n c, .slice A' m c']).run Tryz.prog W = .ok (.slice A2 (n + m) c2) W' ∧ Ow w w.heap.size 5 1 (.slice A2 (n + m) c2) (n + m) (rowsV f8 (X ++ L)) W' ∧ W.grownBy W' (Value.slice A n c).ownBlock := by
  obtain ⟨i0, hi, hz0, hz1, hz2⟩ := info_parts_ info_u8
  obtain ⟨v', W', h1, h2, h3, h4, h5⟩ := Ow.app2 (P := Tryz.prog) 27 ty 5 i0 _ 1 1 _ Tryz.underlying27 hi hz0 hz1 hz2 rfl (by decide) _ _ _ ho _ A' m c' _ hr (f8_all L) (by unfold maxLen; omega) (by omega)
  rw [← rows8_app] at h2
  obtain ⟨A2, c2, rfl, -⟩ := h2.rds
  exact ⟨A2, c2, W', h1, h2, h4⟩
/-- A literal of one byte. -/
theorem one8 (W : World) (b : Nat) : RdS (W.alloc (.cells #[.int .u8 (b : Int)] 5)) (W.alloc (.cells #[.int .u8 (b : Int)] 5)).heap.size 1 (some ⟨W.heap.size, 0, none⟩) 1 1 (rowsV f8 [b]) := RdS.of_whole8 (Whole.new_ _ _ [_]) rfl
theorem put_not (A : Option Addr) (n c : Nat) (Vs : List VC) (B : Option Addr) (m k : Nat) (Es : List EC) (w : World) (h : DgIn w A n c Vs B m k Es) (hg : GoodD Vs Es) (hr : ∀ x ∈ Vs, x.2.1.2.1 ≤ 1000000) (hm : mayF7 Vs Es ≠ 0) :
    Calls Tryz.prog 6 #[.agg #[.slice A n c, .slice B m k]] w fun e w' => e = .returned (.tuple #[.slice none 0 0, .int .i64 (mayF7 Vs Es)]) ∧ Below w.heap.size w w' := by
  have HM := Lib.hid (may7_any (A := A) (n := n) (c := c) (B := B) (m := m) (k := k) hr hg)
  have HD := Lib.hid h
  obtain ⟨x, gx⟩ : ∃ z, mayF7 Vs Es = z := ⟨_, rfl⟩
  rw [gx] at HM hm ⊢
  have hne : (x != 0) = true := bne_iff_ne.2 hm
  clear h hg hr hm gx
  go_enter Tryz.func6, Tryz.ntmps6
  go_upto_region 1 with fail
  have hx0 : Whole (w.alloc (.cells #[.slice A n c, .slice B m k] 25)) (w.heap.size) 25 [.slice A n c, .slice B m k] := (Whole.new_ w 25 [.slice A n c, .slice B m k])
  have hbl : Below w.heap.size w (w.alloc (.cells #[.slice A n c, .slice B m k] 25)) := (below1 w (.cells #[.slice A n c, .slice B m k] 25))
  have hsz : w.heap.size + 1 ≤ ((w.alloc (.cells #[.slice A n c, .slice B m k] 25))).heap.size := by simp
  obtain ⟨W0, gW0⟩ : ∃ z, (w.alloc (.cells #[.slice A n c, .slice B m k] 25)) = z := ⟨_, rfl⟩
  rw [gW0] at hx0 hbl hsz
  obtain ⟨b0, gb0⟩ : ∃ z, w.heap.size = z := ⟨_, rfl⟩
  rw [gb0] at hx0
  have HX0 := Lib.hid hx0
  have HB0 := Lib.hid hbl
  have HS0 := Lib.hid hsz
  have Gb0 := Lib.hid gb0
  have Lb0 : RowKit.Hid (w.heap.size ≤ b0) := Lib.hid (by omega)
  rw [gW0, gb0]
  clear gW0 hbl hsz hx0 gb0
  have c0 := HX0.out.cell (i := 0) rfl
  have c1 := HX0.out.cell (i := 1) rfl
  have HD0 := Lib.hid (HD.out.bl HB0.out)
  go_wp2_with (first | (go_at_call 14; refine (HM.out _ HD0.out).mono ?_; rintro e w2 ⟨rfl, hb2⟩; have HB2 := Lib.hid (Ext.trans HB0.out hb2); clear hb2 c0 c1))
  exact bodyPost_ret (v := .tuple #[.slice none 0 0, .int .i64 x]) (by simp [results, Tryz.results6, go_sem]) rfl ⟨rfl, HB2.out⟩

end Go.Proofs.YtahbfdhjgnlmdaaGreat
