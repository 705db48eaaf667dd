/- Words for all layers, in one text. -/
import Derived.Test.YtpindjknngcccaaHA
import Derived.Test.YtpindjknngcccaaHC

/- How many vertices, edges, faces and parts there are; the genus. -/
namespace Go.Proofs.Ytpindjknngcccaa
open Go.RowKit
set_option linter.unusedSimpArgs false
set_option linter.unusedVariables false


def alB (v : VC) : Bool := decide (v.2.1.2.2.2 = [])
theorem alone_next {Vs : List VC} {j : Nat} {v : VC} (h : Vs[j]? = some v) : ((Vs.take (j + 1)).filter alB).length = ((Vs.take j).filter alB).length + if alB v then 1 else 0 := by
  rw [List.take_add_one, h, List.filter_append, List.length_append]
  congr 1
  simp only [Option.toList_some, List.filter_cons, List.filter_nil]
  split <;> rfl
theorem alone_le (Vs : List VC) : aloneN Vs ≤ Vs.length := List.length_filter_le _ _
theorem alB_len {v : VC} {rn : Nat} (h : v.2.1.2.2.2.length = rn) : ((rn : Int) == 0) = alB v := by
  unfold alB
  cases hR : v.2.1.2.2.2 with
  | nil => rw [hR] at h; subst h; rfl
  | cons a r =>
    rw [hR, List.length_cons] at h
    subst h
    simp
    omega
set_option maxRecDepth 100000 in
set_option maxHeartbeats 4000000 in
theorem cnt1 (v : VC) (w : World) (hr : v.2.1.2.2.2.length = v.2.1.2.1) : Calls Try.prog 39 #[.agg (vC v).toArray] w fun e w' => e = .returned (.bool (alB v)) ∧ Below w.heap.size w w' := by
  have hb := alB_len hr
  obtain ⟨b, gb⟩ : ∃ z, alB v = z := ⟨_, rfl⟩
  rw [gb] at hb ⊢
  clear gb hr
  obtain ⟨⟨i1, i2⟩, ⟨rA, rn, rc, rL⟩, lb, at_⟩ := v
  replace hb : ((rn : Int) == 0) = b := hb
  show Calls Try.prog 39 #[.agg #[.int .i64 i1, .int .i64 i2, .slice rA rn rc, .string lb, .int .i64 at_]] w _
  go_enter Try.func39, Try.ntmps39
  go_wp2
  exact bodyPost_ret (v := .bool b) (by simp [results, Try.results39, go_sem, hb]) rfl ⟨rfl, below1 _ _⟩
set_option maxRecDepth 100000 in
set_option maxHeartbeats 4000000 in
theorem ecount1 (A : Option Addr) (n c : Nat) (Vs : List VC) (w : World) (h : RdS w w.heap.size 5 A n c (rowsV vC Vs)) (hn : n ≤ 1000000) (hr : ∀ v ∈ Vs, v.2.1.2.2.2.length = v.2.1.2.1) :
    Calls Try.prog 38 #[.slice A n c, .func (.func 39) #[] #[]] w fun e w' => e = .returned (.int .i64 ((aloneN Vs : Nat) : Int)) ∧ Below w.heap.size w w' := by
  have hl := h.rlen vC_len (by decide)
  have H := Lib.hid h
  have Hl := Lib.hid hl
  have Hr := Lib.hid hr
  have HE := Lib.hid (ent_of (k := 39) Try.func39 (by kernel_rfl) rfl)
  have HG : RowKit.Hid (aloneN Vs = ((Vs.take n).filter alB).length) := Lib.hid (by rw [List.take_of_length_le (by omega)]; rfl)
  obtain ⟨an, gan⟩ : ∃ z, aloneN Vs = z := ⟨_, rfl⟩
  rw [gan] at HG ⊢
  clear h hl hr gan
  go_enter Try.func38, Try.ntmps38
  go_wp2
  go_loopw [5, 10] (fun sn si wr => ∃ (j q : Nat), j ≤ n ∧ si = .int .i64 j ∧ sn = .int .i64 (q : Int) ∧ RowKit.Hid (Below w.heap.size w wr) ∧ RowKit.Hid (((Vs.take j).filter alB).length = q)) (fun _ si _ => n - (intOf si).toNat)
  case atStart => exact ⟨0, 0, by omega, rfl, rfl, Lib.hid (Below.refl _ _), Lib.hid rfl⟩
  case round =>
    obtain ⟨j, q, hj, rfl, rfl, HB, HQ⟩ := hrel
    have hqj : q ≤ j := by
      have h1 := List.length_filter_le alB (Vs.take j)
      rw [HQ.out, List.length_take] at h1
      omega
    by_cases hjn : j < n
    · obtain ⟨v, hx⟩ : ∃ v, Vs[j]? = some v := ⟨_, List.getElem?_eq_getElem (by have := Hl.out; omega)⟩
      have hnx := alone_next hx
      rw [HQ.out] at hnx
      have hcn := fun W => cnt1 v W (Hr.out v (List.mem_of_getElem? hx))
      obtain ⟨b, gb⟩ : ∃ z, alB v = z := ⟨_, rfl⟩
      rw [gb] at hcn hnx
      obtain ⟨bb, off, rfl, hbB, hpl⟩ := H.out.place vC_len (by decide) (by omega)
      have hbw := HB.out
      have q0 := hpl j _ hx 0 _ rfl
      have q1 := hpl j _ hx 1 _ rfl
      have q2 := hpl j _ hx 2 _ rfl
      have q3 := hpl j _ hx 3 _ rfl
      have q4 := hpl j _ hx 4 _ rfl
      simp only [Addr.add_lit, Nat.add_zero] at q0 q1 q2 q3 q4
      have l0 := (hbw.cell (p := ⟨bb, off + j * 5, none⟩) hbB).trans q0
      have l1 := (hbw.cell (p := ⟨bb, off + j * 5 + 1, none⟩) hbB).trans q1
      have l2 := (hbw.cell (p := ⟨bb, off + j * 5 + 2, none⟩) hbB).trans q2
      have l3 := (hbw.cell (p := ⟨bb, off + j * 5 + 3, none⟩) hbB).trans q3
      have l4 := (hbw.cell (p := ⟨bb, off + j * 5 + 4, none⟩) hbB).trans q4
      clear hbw q0 q1 q2 q3 q4
      obtain ⟨⟨i1, i2⟩, ⟨rA, rn, rc, rL⟩, lb, at_⟩ := v
      replace hcn : ∀ W, Calls Try.prog 39 #[.agg #[.int .i64 i1, .int .i64 i2, .slice rA rn rc, .string lb, .int .i64 at_]] W fun e w' => e = .returned (.bool b) ∧ Below W.heap.size W w' := hcn
      have HC := Lib.hid hcn
      have Hnx := Lib.hid hnx
      clear hx hpl hcn hbB gb hnx
      go_wp2_with fail
      refine (HC.out _).mono ?_
      rintro e w3 ⟨rfl, hb3⟩
      have HB3 : RowKit.Hid (Below w.heap.size w w3) := Lib.hid (bel_bl (bel_al HB.out (.cells #[.int .i64 i1, .int .i64 i2, .slice rA rn rc, .string lb, .int .i64 at_] 42)) hb3)
      clear hb3 l0 l1 l2 l3 l4
      cases b with
      | false =>
        go_wp2
        go_roundw
        case rel => exact ⟨j + 1, q, by omega, by go_num, rfl, HB3, Lib.hid Hnx.out⟩
        case measure => simp [intOf]; omega
      | true =>
        have hwq : IntKind.i64.wrap ((q : Int) + 1) = ((q + 1 : Nat) : Int) := by rw [IntWalk.i64_in _ (by omega)]; rfl
        go_wp2
        go_roundw
        case rel => exact ⟨j + 1, q + 1, by omega, by go_num, by go_num, HB3, Lib.hid Hnx.out⟩
        case measure => simp [intOf]; omega
    · obtain rfl : n = j := by omega
      have hq : q = an := by rw [HG.out, HQ.out]
      subst hq
      go_wp2
      go_ret
      exact ⟨rfl, HB.out⟩
end Go.Proofs.Ytpindjknngcccaa

/- Counts of layer 7. -/
namespace Go.Proofs.Ytpindjknngcccaa
open Go.RowKit
set_option linter.unusedSimpArgs false
set_option linter.unusedVariables false

set_option maxRecDepth 100000 in
set_option maxHeartbeats 4000000 in
theorem ecnt_any (A : Option Addr) (n c : Nat) (Vs : List VC) (B : Option Addr) (m k : Nat) (Es : List EC) (F C : Nat) (w : World) (h : DgIn w A n c Vs B m k Es) (hn : n ≤ 1000000) (hm : m ≤ 1000000) (hF : F ≤ 1000000) (hC : C ≤ 1000000) (HF : ∀ W, DgIn W A n c Vs B m k Es → Calls Try.prog 40 #[.agg #[.slice A n c, .slice B m k]] W fun e w' => ∃ A' c', e = .returned (.slice A' F c') ∧ Below W.heap.size W w') (HC : ∀ W, DgIn W A n c Vs B m k Es → Calls Try.prog 41 #[.agg #[.slice A n c, .slice B m k]] W fun e w' => e = .returned (.int .i64 ((C : Nat) : Int)) ∧ Below W.heap.size W w') :
    Calls Try.prog 15 #[.agg #[.slice A n c, .slice B m k]] w fun e w' => e = .returned (.tuple #[.int .i64 (n : Int), .int .i64 (m : Int), .int .i64 ((F + aloneN Vs : Nat) : Int), .int .i64 (C : Int)]) ∧ Below w.heap.size w w' := by
  have HDa := Lib.hid h
  have hr : ∀ v ∈ Vs, v.2.1.2.2.2.length = v.2.1.2.1 := fun v hv => (h.r v hv).2.dlen
  have HC1 := Lib.hid (fun W (hv : RdS W W.heap.size 5 A n c (rowsV vC Vs)) => ecount1 A n c Vs W hv hn hr)
  have hl := h.v.rlen vC_len (by decide)
  have hal := alone_le Vs
  rw [hl] at hal
  obtain ⟨an, gan⟩ : ∃ z, aloneN Vs = z := ⟨_, rfl⟩
  rw [gan] at HC1 hal ⊢
  have HFf := Lib.hid HF
  have HCc := Lib.hid HC
  obtain ⟨ft, gft⟩ : ∃ z, F + an = z := ⟨_, rfl⟩
  have hw1 : IntKind.i64.wrap ((F : Int) + (an : Int)) = (ft : Int) := by rw [IntWalk.i64_in _ (by omega)]; omega
  rw [gft]
  clear gft
  clear h hr hl gan HF HC
  go_enter Try.func15, Try.ntmps15
  have lw1 : ((w.alloc (.cells #[.slice A n c, .slice B m k] 25))).cell? ⟨w.heap.size, 0, none⟩ = some (.slice A n c) := (show Whole (w.alloc (.cells #[.slice A n c, .slice B m k] 25)) (w.heap.size) (25) ([.slice A n c, .slice B m k]) from Whole.new2 (by first | rfl | simp)).cell (i := 0) rfl
  go_wp2_with fail
  clear lw1
  refine (HC1.out _ (DgIn.v (HDa.out.al (.cells #[.slice A n c, .slice B m k] 25)))).mono ?_
  rintro e w2 ⟨rfl, hb2⟩
  have Da_3 := Lib.hid ((HDa.out.al (.cells #[.slice A n c, .slice B m k] 25)).bl hb2)
  have D0_3 := Lib.hid ((show Whole (w.alloc (.cells #[.slice A n c, .slice B m k] 25)) (w.heap.size) (25) ([.slice A n c, .slice B m k]) from Whole.new2 (by first | rfl | simp)).bl hb2)
  have Bel_3 := Lib.hid (bel_bl (bel_al (Below.refl _ w) (.cells #[.slice A n c, .slice B m k] 25)) hb2)
  clear HDa
  clear hb2
  go_upto_region 2 with fail
  have Da_4 := Lib.hid (Da_3.out.dr)
  have D0_4 := Lib.hid (D0_3.out.dr)
  have Bel_4 := Lib.hid (bel_dr Bel_3.out)
  have ld5 : ∀ w', Kept Nil_ w2.drew w' → w'.cell? ⟨w.heap.size, 0, none⟩ = some (.slice A n c) := fun w' h => h.nil_cell (D0_4.out.cell (i := 0) rfl)
  have ld6 : ∀ w', Kept Nil_ w2.drew w' → w'.cell? ⟨w.heap.size, 1, none⟩ = some (.slice B m k) := fun w' h => h.nil_cell (D0_4.out.cell (i := 1) rfl)
  refine wp_region_reg Nil_ (by kernel_rfl) ?_
  apply wpR_next 0 (some 10)
  · simp only [List.getElem?_toArray, List.getElem?_cons_succ, List.getElem?_cons_zero]; exact rfl
  · rfl
  · kernel_rfl
  · kernel_rfl
  · kernel_rfl
  · exact fun _ _ _ _ h => h
  apply Exists.intro
  apply And.intro
  · apply yr_run; rfl; intro w' hw'; go_simp; (try with_reducible rfl)
  simp only [Act.put, List.setIfInBounds_toArray, List.set_cons_zero, List.set_cons_succ]
  apply wpR_next 1 (some 11)
  · simp only [List.getElem?_toArray, List.getElem?_cons_succ, List.getElem?_cons_zero]; exact rfl
  · rfl
  · kernel_rfl
  · kernel_rfl
  · kernel_rfl
  · exact fun _ _ _ _ h => h
  apply Exists.intro
  apply And.intro
  · apply yr_run; rfl; intro w' hw'; go_simp; (try with_reducible rfl)
  simp only [Act.put, List.setIfInBounds_toArray, List.set_cons_zero, List.set_cons_succ]
  apply wpR_next 2 (some 12)
  · simp only [List.getElem?_toArray, List.getElem?_cons_succ, List.getElem?_cons_zero]; exact rfl
  · rfl
  · kernel_rfl
  · kernel_rfl
  · kernel_rfl
  · exact fun _ _ _ _ h => h
  apply Exists.intro
  apply And.intro
  · apply yr_run; rfl; intro w' hw'; go_simp; (try with_reducible rfl)
  simp only [Act.put, List.setIfInBounds_toArray, List.set_cons_zero, List.set_cons_succ]
  apply wpR_next 3 (some 13)
  · simp only [List.getElem?_toArray, List.getElem?_cons_succ, List.getElem?_cons_zero]; exact rfl
  · rfl
  · kernel_rfl
  · kernel_rfl
  · kernel_rfl
  · exact fun _ _ _ _ h => h
  apply Exists.intro
  apply And.intro
  · apply yr_run; rfl; intro w' hw'; go_simp; (try with_reducible rfl)
  simp only [Act.put, List.setIfInBounds_toArray, List.set_cons_zero, List.set_cons_succ]
  apply wpR_next 4 (some 14)
  · simp only [List.getElem?_toArray, List.getElem?_cons_succ, List.getElem?_cons_zero]; exact rfl
  · rfl
  · kernel_rfl
  · kernel_rfl
  · kernel_rfl
  · exact fun _ _ _ _ h => h
  apply Exists.intro
  apply And.intro
  · apply yr_run; rfl; intro w' hw'; go_simp; (try with_reducible rfl)
  simp only [Act.put, List.setIfInBounds_toArray, List.set_cons_zero, List.set_cons_succ]
  apply wpR_next 5 (some 15)
  · simp only [List.getElem?_toArray, List.getElem?_cons_succ, List.getElem?_cons_zero]; exact rfl
  · rfl
  · kernel_rfl
  · kernel_rfl
  · kernel_rfl
  · exact fun _ _ _ _ h => h
  apply Exists.intro
  apply And.intro
  · apply yr_run; rfl; intro w' hw'; go_simp; (try with_reducible rfl)
  simp only [Act.put, List.setIfInBounds_toArray, List.set_cons_zero, List.set_cons_succ]
  apply wpR_next 6 (some 16)
  · simp only [List.getElem?_toArray, List.getElem?_cons_succ, List.getElem?_cons_zero]; exact rfl
  · rfl
  · kernel_rfl
  · kernel_rfl
  · kernel_rfl
  · exact fun _ _ _ _ h => h
  apply Exists.intro
  apply And.intro
  · apply yr_run; rfl; intro w' hw'; go_simp; (try with_reducible rfl)
  simp only [Act.put, List.setIfInBounds_toArray, List.set_cons_zero, List.set_cons_succ]
  apply wpR_next 9 (some 19)
  · simp only [List.getElem?_toArray, List.getElem?_cons_succ, List.getElem?_cons_zero]; exact rfl
  · rfl
  · kernel_rfl
  · kernel_rfl
  · kernel_rfl
  · exact fun _ _ _ _ h => h
  apply Exists.intro
  apply And.intro
  · apply yr_run; rfl; intro w' hw'; go_simp; (try with_reducible rfl)
  simp only [Act.put, List.setIfInBounds_toArray, List.set_cons_zero, List.set_cons_succ]
  apply wpR_next 11 (some 21)
  · simp only [List.getElem?_toArray, List.getElem?_cons_succ, List.getElem?_cons_zero]; exact rfl
  · rfl
  · kernel_rfl
  · kernel_rfl
  · kernel_rfl
  · exact fun _ _ _ _ h => h
  apply Exists.intro
  apply And.intro
  · apply yr_run; rfl; intro w' hw'; go_simp; (try with_reducible rfl)
  simp only [Act.put, List.setIfInBounds_toArray, List.set_cons_zero, List.set_cons_succ]
  apply wpR_call 7 (some 17)
  · simp only [List.getElem?_toArray, List.getElem?_cons_succ, List.getElem?_cons_zero]; exact rfl
  · rfl
  · kernel_rfl
  · rfl
  · intro w'; go_simp; first | done | exact ⟨rfl, rfl⟩ | with_reducible rfl
  intro w' hw'
  refine (HFf.out _ (Da_4.out.bl hw')).mono ?_
  rintro e w7 ⟨A5, c5, rfl, hb7⟩
  have Da_7 := Lib.hid ((Da_4.out.bl hw').bl hb7)
  have D0_7 := Lib.hid ((D0_4.out.bl hw').bl hb7)
  have Bel_7 := Lib.hid (bel_bl (bel_bl Bel_4.out hw') hb7)
  have ld8 := fun w'' (h : Kept Nil_ w7 w'') => ld5 w'' ((Kept.of_ext hw').trans ((Kept.of_below hb7).trans h))
  have ld9 := fun w'' (h : Kept Nil_ w7 w'') => ld6 w'' ((Kept.of_ext hw').trans ((Kept.of_below hb7).trans h))
  refine ⟨_, rfl, Kept.of_below hb7, ?_⟩
  clear hw' hb7
  simp only [Act.put, List.setIfInBounds_toArray, List.set_cons_zero, List.set_cons_succ]
  apply wpR_next 8 (some 18)
  · simp only [List.getElem?_toArray, List.getElem?_cons_succ, List.getElem?_cons_zero]; exact rfl
  · rfl
  · kernel_rfl
  · kernel_rfl
  · kernel_rfl
  · exact fun _ _ _ _ h => h
  apply Exists.intro
  apply And.intro
  · apply yr_run; rfl; intro w' hw'; go_simp; (try with_reducible rfl)
  simp only [Act.put, List.setIfInBounds_toArray, List.set_cons_zero, List.set_cons_succ]
  apply wpR_next 10 (some 20)
  · simp only [List.getElem?_toArray, List.getElem?_cons_succ, List.getElem?_cons_zero]; exact rfl
  · rfl
  · kernel_rfl
  · kernel_rfl
  · kernel_rfl
  · exact fun _ _ _ _ h => h
  apply Exists.intro
  apply And.intro
  · apply yr_run; rfl; intro w' hw'; go_simp; (try with_reducible rfl)
  simp only [Act.put, List.setIfInBounds_toArray, List.set_cons_zero, List.set_cons_succ]
  apply wpR_call 12 (some 22)
  · simp only [List.getElem?_toArray, List.getElem?_cons_succ, List.getElem?_cons_zero]; exact rfl
  · rfl
  · kernel_rfl
  · rfl
  · intro w'; go_simp; first | done | exact ⟨rfl, rfl⟩ | with_reducible rfl
  intro w' hw'
  refine (HCc.out _ (Da_7.out.bl hw')).mono ?_
  rintro e w10 ⟨rfl, hb10⟩
  have Da_10 := Lib.hid ((Da_7.out.bl hw').bl hb10)
  have D0_10 := Lib.hid ((D0_7.out.bl hw').bl hb10)
  have Bel_10 := Lib.hid (bel_bl (bel_bl Bel_7.out hw') hb10)
  have ld11 := fun w'' (h : Kept Nil_ w10 w'') => ld8 w'' ((Kept.of_ext hw').trans ((Kept.of_below hb10).trans h))
  have ld12 := fun w'' (h : Kept Nil_ w10 w'') => ld9 w'' ((Kept.of_ext hw').trans ((Kept.of_below hb10).trans h))
  refine ⟨_, rfl, Kept.of_below hb10, ?_⟩
  clear hw' hb10
  simp only [Act.put, List.setIfInBounds_toArray, List.set_cons_zero, List.set_cons_succ]
  apply wpR_next 13 (some 2)
  · simp only [List.getElem?_toArray, List.getElem?_cons_succ, List.getElem?_cons_zero]; exact rfl
  · rfl
  · kernel_rfl
  · kernel_rfl
  · kernel_rfl
  · exact fun _ _ _ _ h => h
  apply Exists.intro
  apply And.intro
  · apply yr_run; rfl; intro w' hw'; go_simp; (try with_reducible rfl)
  simp only [Act.put, List.setIfInBounds_toArray, List.set_cons_zero, List.set_cons_succ]
  apply wpR_next 14 (some 3)
  · simp only [List.getElem?_toArray, List.getElem?_cons_succ, List.getElem?_cons_zero]; exact rfl
  · rfl
  · kernel_rfl
  · kernel_rfl
  · kernel_rfl
  · exact fun _ _ _ _ h => h
  apply Exists.intro
  apply And.intro
  · apply yr_run; rfl; intro w' hw'; go_simp; (try with_reducible rfl)
  simp only [Act.put, List.setIfInBounds_toArray, List.set_cons_zero, List.set_cons_succ]
  apply wpR_next 15 (some 4)
  · simp only [List.getElem?_toArray, List.getElem?_cons_succ, List.getElem?_cons_zero]; exact rfl
  · rfl
  · kernel_rfl
  · kernel_rfl
  · kernel_rfl
  · exact fun _ _ _ _ h => h
  apply Exists.intro
  apply And.intro
  · apply yr_run; rfl; intro w' hw'; go_simp; (try with_reducible rfl)
  simp only [Act.put, List.setIfInBounds_toArray, List.set_cons_zero, List.set_cons_succ]
  apply wpR_next 16 (some 5)
  · simp only [List.getElem?_toArray, List.getElem?_cons_succ, List.getElem?_cons_zero]; exact rfl
  · rfl
  · kernel_rfl
  · kernel_rfl
  · kernel_rfl
  · exact fun _ _ _ _ h => h
  apply Exists.intro
  apply And.intro
  · apply yr_run; rfl; intro w' hw'; go_simp; (try with_reducible rfl)
  simp only [Act.put, List.setIfInBounds_toArray, List.set_cons_zero, List.set_cons_succ]
  refine wpR_done (by kernel_rfl) ?_ _
  intro w13 hw'
  have Da_14 := Lib.hid (Da_10.out.bl hw')
  have D0_14 := Lib.hid (D0_10.out.bl hw')
  have Bel_14 := Lib.hid (bel_bl Bel_10.out hw')
  clear Da_10 D0_10 Bel_10
  clear hw'
  go_wp2
  exact bodyPost_ret (v := .tuple #[.int .i64 (n : Int), .int .i64 (m : Int), .int .i64 (ft : Int), .int .i64 (C : Int)]) (by simp [results, Try.results15, go_sem]) rfl ⟨rfl, Bel_14.out⟩
end Go.Proofs.Ytpindjknngcccaa

/- Counts of layer 7. -/
namespace Go.Proofs.Ytpindjknngcccaa
open Go.RowKit
set_option linter.unusedSimpArgs false
set_option linter.unusedVariables false

end Go.Proofs.Ytpindjknngcccaa

/- Counts of layer 7. -/
namespace Go.Proofs.Ytpindjknngcccaa
open Go.RowKit
set_option linter.unusedSimpArgs false
set_option linter.unusedVariables false

set_option maxRecDepth 100000 in
set_option maxHeartbeats 4000000 in
theorem egenus_any (A : Option Addr) (n c : Nat) (Vs : List VC) (B : Option Addr) (m k : Nat) (Es : List EC) (f C : Nat) (g : Int) (w : World) (h : DgIn w A n c Vs B m k Es) (hn : n ≤ 1000000) (hm : m ≤ 1000000) (hf : f ≤ 2000000) (hC : C ≤ 1000000) (hg : (2 * (C : Int) - n + m - f).tdiv 2 = g)
    (HN : ∀ W, DgIn W A n c Vs B m k Es → Calls Try.prog 15 #[.agg #[.slice A n c, .slice B m k]] W fun e w' => e = .returned (.tuple #[.int .i64 (n : Int), .int .i64 (m : Int), .int .i64 (f : Int), .int .i64 (C : Int)]) ∧ Below W.heap.size W w') :
    Calls Try.prog 17 #[.agg #[.slice A n c, .slice B m k]] w fun e w' => e = .returned (.int .i64 g) ∧ Below w.heap.size w w' := by
  have HDa := Lib.hid h
  have HNn := Lib.hid HN
  have h1 : IntKind.i64.wrap (2 * (C : Int)) = 2 * (C : Int) := IntWalk.i64_in _ (by omega)
  have h2 : IntKind.i64.wrap (2 * (C : Int) - (n : Int)) = 2 * (C : Int) - (n : Int) := IntWalk.i64_in _ (by omega)
  have h3 : IntKind.i64.wrap (2 * (C : Int) - (n : Int) + (m : Int)) = 2 * (C : Int) - (n : Int) + (m : Int) := IntWalk.i64_in _ (by omega)
  have h4 : IntKind.i64.wrap (2 * (C : Int) - (n : Int) + (m : Int) - (f : Int)) = 2 * (C : Int) - (n : Int) + (m : Int) - (f : Int) := IntWalk.i64_in _ (by omega)
  have hgb : -9223372036854775808 ≤ g ∧ g ≤ 9223372036854775807 := by
    rw [← hg]
    have q1 : -(8000000 : Int) ≤ (2 * (C : Int) - n + m - f) := by omega
    have q2 : (2 * (C : Int) - n + m - f) ≤ 8000000 := by omega
    generalize (2 * (C : Int) - (n : Int) + m - f) = x at q1 q2
    rcases Int.le_total 0 x with q | q
    · rw [Int.tdiv_eq_ediv_of_nonneg q]; omega
    · have e : x.tdiv 2 = -((-x) / 2) := by rw [← Int.tdiv_eq_ediv_of_nonneg (show (0 : Int) ≤ -x by omega), Int.neg_tdiv, Int.neg_neg]
      rw [e]
      omega
  have h5 : IntKind.i64.wrap ((2 * (C : Int) - (n : Int) + (m : Int) - (f : Int)).tdiv 2) = g := by rw [hg]; exact IntWalk.i64_in _ hgb
  clear h HN hg hgb
  go_enter Try.func17, Try.ntmps17
  have lw1 : ((w.alloc (.cells #[.slice A n c, .slice B m k] 25))).cell? ⟨w.heap.size, 0, none⟩ = some (.slice A n c) := (show Whole (w.alloc (.cells #[.slice A n c, .slice B m k] 25)) (w.heap.size) (25) ([.slice A n c, .slice B m k]) from Whole.new2 (by first | rfl | simp)).cell (i := 0) rfl
  have lw2 : ((w.alloc (.cells #[.slice A n c, .slice B m k] 25))).cell? ⟨w.heap.size, 1, none⟩ = some (.slice B m k) := (show Whole (w.alloc (.cells #[.slice A n c, .slice B m k] 25)) (w.heap.size) (25) ([.slice A n c, .slice B m k]) from Whole.new2 (by first | rfl | simp)).cell (i := 1) rfl
  go_wp2_with fail
  clear lw1 lw2
  refine (HNn.out _ (HDa.out.al (.cells #[.slice A n c, .slice B m k] 25))).mono ?_
  rintro e w3 ⟨rfl, hb3⟩
  have Da_4 := Lib.hid ((HDa.out.al (.cells #[.slice A n c, .slice B m k] 25)).bl hb3)
  have D0_4 := Lib.hid ((show Whole (w.alloc (.cells #[.slice A n c, .slice B m k] 25)) (w.heap.size) (25) ([.slice A n c, .slice B m k]) from Whole.new2 (by first | rfl | simp)).bl hb3)
  have Bel_4 := Lib.hid (bel_bl (bel_al (Below.refl _ w) (.cells #[.slice A n c, .slice B m k] 25)) hb3)
  clear HDa
  clear hb3
  go_wp2
  go_ret
  exact ⟨by first | rfl | (rw [h5]) | simp [h5], Bel_4.out⟩
set_option maxRecDepth 100000 in
set_option maxHeartbeats 4000000 in
theorem eplan_any (A : Option Addr) (n c : Nat) (Vs : List VC) (B : Option Addr) (m k : Nat) (Es : List EC) (g : Int) (w : World) (h : DgIn w A n c Vs B m k Es) (HG : ∀ W, DgIn W A n c Vs B m k Es → Calls Try.prog 17 #[.agg #[.slice A n c, .slice B m k]] W fun e w' => e = .returned (.int .i64 g) ∧ Below W.heap.size W w') :
    Calls Try.prog 19 #[.agg #[.slice A n c, .slice B m k]] w fun e w' => e = .returned (.bool (g == 0)) ∧ Below w.heap.size w w' := by
  have HDa := Lib.hid h
  have HGg := Lib.hid HG
  obtain ⟨b, gb⟩ : ∃ z, (g == 0) = z := ⟨_, rfl⟩
  rw [gb]
  clear h HG
  go_enter Try.func19, Try.ntmps19
  have lw1 : ((w.alloc (.cells #[.slice A n c, .slice B m k] 25))).cell? ⟨w.heap.size, 0, none⟩ = some (.slice A n c) := (show Whole (w.alloc (.cells #[.slice A n c, .slice B m k] 25)) (w.heap.size) (25) ([.slice A n c, .slice B m k]) from Whole.new2 (by first | rfl | simp)).cell (i := 0) rfl
  have lw2 : ((w.alloc (.cells #[.slice A n c, .slice B m k] 25))).cell? ⟨w.heap.size, 1, none⟩ = some (.slice B m k) := (show Whole (w.alloc (.cells #[.slice A n c, .slice B m k] 25)) (w.heap.size) (25) ([.slice A n c, .slice B m k]) from Whole.new2 (by first | rfl | simp)).cell (i := 1) rfl
  go_wp2_with fail
  clear lw1 lw2
  refine (HGg.out _ (HDa.out.al (.cells #[.slice A n c, .slice B m k] 25))).mono ?_
  rintro e w3 ⟨rfl, hb3⟩
  have Da_4 := Lib.hid ((HDa.out.al (.cells #[.slice A n c, .slice B m k] 25)).bl hb3)
  have D0_4 := Lib.hid ((show Whole (w.alloc (.cells #[.slice A n c, .slice B m k] 25)) (w.heap.size) (25) ([.slice A n c, .slice B m k]) from Whole.new2 (by first | rfl | simp)).bl hb3)
  have Bel_4 := Lib.hid (bel_bl (bel_al (Below.refl _ w) (.cells #[.slice A n c, .slice B m k] 25)) hb3)
  clear HDa
  clear hb3
  go_wp2
  go_ret
  exact ⟨by first | rfl | (rw [gb]) | simp [gb], Bel_4.out⟩
end Go.Proofs.Ytpindjknngcccaa

/- Counts of layer 7. -/
namespace Go.Proofs.Ytpindjknngcccaa
open Go.RowKit
set_option linter.unusedSimpArgs false
set_option linter.unusedVariables false

end Go.Proofs.Ytpindjknngcccaa
