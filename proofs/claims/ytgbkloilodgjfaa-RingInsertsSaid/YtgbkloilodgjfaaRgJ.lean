/- The laws' darts, each once; the document's examples. -/
import Derived.Test.YtgbkloilodgjfaaRgI
namespace Go.Proofs.Ytgbkloilodgjfaa
open Go.RowKit
set_option linter.unusedSimpArgs false

def onceD (L : List D) : List D := onceF (L.take 40)
theorem onceD_len (L : List D) : (onceD L).length ≤ 40 ∧ (onceD L).Nodup := by
  have := onceF_len (L.take 40)
  have := List.length_take_le 40 L
  exact ⟨by unfold onceD; omega, (onceF_len _).2⟩

set_option maxRecDepth 100000 in
set_option maxHeartbeats 1000000 in
theorem once_any (A : Option Addr) (n c : Nat) (L : List D) (w : World) (h : RdS w w.heap.size 3 A n c (dartsV L)) (hn : n ≤ 9223372036854775807) :
    Calls Try.prog 25 #[.slice A n c] w (GivesR w (onceD L)) := by
  obtain ⟨i0, hi, hz0, hz1, hz2⟩ := info_parts info_dart
  have HI := Lib.hid (fun A n c F x W h hn => rfindex_any A n c F x W h hn)
  have HR := Lib.hid h
  have hl := h.dlen
  subst hl
  have HO0 : RowKit.Hid (Ow w w.heap.size 46 3 (.slice (some ⟨w.heap.size, 0, none⟩) 0 0) 0 [] (w.alloc (.cells #[] 46))) := Ow.new_ (cs := #[]) (Below.refl _ _) (Nat.le_refl _) (Nat.le_refl _) (Nat.zero_le _) rfl
  clear h
  go_enter Try.func25, Try.ntmps25
  go_wp2
  go_loopw [3, 4] (fun v i wr => ∃ k : Nat, k ≤ L.length ∧ k ≤ 40 ∧ i = .int .i64 k ∧ Ow w w.heap.size 46 3 v (onceF (L.take k)).length (dartsV (onceF (L.take k))) wr) (fun _ i _ => L.length - (intOf i).toNat)
  case atStart => exact ⟨0, Nat.zero_le _, Nat.zero_le _, rfl, HO0.out⟩
  case round =>
    clear HO0
    obtain ⟨k, hk, hk40, rfl, how⟩ := hrel
    have HO := Lib.hid how
    have hlen := (onceF_len (L.take k)).1
    have hlt2 := List.length_take_le k L
    by_cases hgo : k < L.length ∧ k < 40
    · obtain ⟨hlt, h40⟩ := hgo
      have h40' : (k : Int) < 40 := by omega
      obtain ⟨b, off, rfl, hb, hc⟩ := (HR.out.up how.below how.below.size).darts (by omega)
      obtain ⟨c1, c2, c3⟩ := hc k hlt
      have hf := onceF_snoc L k hlt
      obtain ⟨A1, cc1, hv, hr1⟩ := HO.out.rds
      subst hv
      obtain ⟨x, gx⟩ : ∃ v, L.getD k (0, 0, 0) = v := ⟨_, rfl⟩
      rw [gx] at c1 c2 c3 hf
      obtain ⟨F, gF⟩ : ∃ v, onceF (L.take k) = v := ⟨_, rfl⟩
      rw [gF] at HO hf hlen hr1 ⊢
      have HI1 := Lib.hid (HI.out A1 F.length cc1 F x wr hr1 (by omega))
      have HF := Lib.hid hf
      clear hc how gx gF hf hr1
      by_cases he : x ∈ F
      · rw [(idxD_mem he).1] at HI1
        rw [if_pos he] at HF
        clear he
        go_wp2_with (first
          | (go_at_call 34; refine (HI1.out).mono ?_; rintro e w2 ⟨rfl, hb2⟩; have HO2 := Lib.hid (HO.out.up hb2); clear hb2))
        go_roundw
        case rel =>
          refine ⟨k + 1, by omega, by omega, by go_num, ?_⟩
          rw [HF.out]
          exact HO2.out
        case measure => simp [intOf]; omega
      · rw [idxD_no he] at HI1
        rw [if_neg he] at HF
        clear he
        have hbb := Lib.hid hb
        go_wp2_with (first
          | (go_at_call 34; refine (HI1.out).mono ?_; rintro e w2 ⟨rfl, hb2⟩; have HO2 := Lib.hid (HO.out.up hb2); have d1 := (hb2.cell hbb.out (p := ⟨b, off + k * 3, none⟩)).trans c1; have d2 := (hb2.cell hbb.out (p := ⟨b, off + k * 3 + 1, none⟩)).trans c2; have d3 := (hb2.cell hbb.out (p := ⟨b, off + k * 3 + 2, none⟩)).trans c3; clear hb2)
          | (at_builtin
             refine wpList_push rfl (.tmp 23) (.tmp 28) _ rfl _ 46 i0 _ 3 24 Try.underlying42 hi hz0 hz1 hz2 rfl (by decide) _ _ _ rfl (by exact HO2.out.up (below1 _ _)) _ (some ⟨w2.heap.size, 0, none⟩) 1 1 (dartsV [x]) rfl (by exact RdS.whole3 (L := [x]) (Whole.new2 (by simp))) (dartsV_one [x]) (by unfold maxLen; omega) (by omega) ?_
             intro v1 w1 how1 hb1
             have HO1 := Lib.hid how1
             clear how1 hb1))
        go_roundw
        case rel =>
          refine ⟨k + 1, by omega, by omega, by go_num, ?_⟩
          rw [HF.out, List.length_append, dartsV_app]
          exact HO1.out
        case measure => simp [intOf]; omega
    · have hfin : onceF (L.take k) = onceD L := by
        unfold onceD
        rcases Nat.lt_or_ge k L.length with h1 | h1
        · rw [show k = 40 by omega]
        · rw [List.take_of_length_le h1, List.take_of_length_le (by omega)]
      rw [hfin] at HO
      obtain ⟨A1, cc1, hv, hr1⟩ := HO.out.rds
      subst hv
      have HR1 := Lib.hid hr1
      clear how hr1 hfin
      by_cases hlt : k < L.length
      · have h40' : ¬ (k : Int) < 40 := by omega
        clear hgo
        go_wp2
        go_ret
        exact ⟨A1, cc1, rfl, HR1.out, HO.out.below⟩
      · clear hgo
        go_wp2
        go_ret
        exact ⟨A1, cc1, rfl, HR1.out, HO.out.below⟩

theorem dart_any (k : Int) (w : World) : Calls Try.prog 48 #[.int .i64 k] w fun e w' => e = .returned (.agg #[.int .i64 1, .int .i64 k, .int .i64 0]) ∧ Below w.heap.size w w' := by
  go_enter Try.func48, Try.ntmps48
  go_wp2
  exact bodyPost_ret (v := .agg #[.int .i64 1, .int .i64 k, .int .i64 0]) (by simp [results, Try.results48, go_sem]) rfl ⟨rfl, below1 _ _⟩

set_option maxRecDepth 100000 in
set_option maxHeartbeats 2000000 in
theorem rg_shown (w : World) : Calls Try.prog 24 #[] w fun e w' => e = .returned (.bool true) ∧ Below w.heap.size w w' := by
  have HD := Lib.hid dart_any
  have e1 : turnD [(1, 3, 0), (1, 1, 0), (1, 2, 0)] = [(1, 1, 0), (1, 2, 0), (1, 3, 0)] := by decide
  have e2 : turnD (insR [(1, 1, 0), (1, 2, 0)] (1, 1, 0) (1, 3, 0)) = [(1, 1, 0), (1, 3, 0), (1, 2, 0)] := by decide
  have e3 : turnD (insR [(1, 1, 0), (1, 2, 0)] (1, 9, 0) (1, 3, 0)) = [(1, 1, 0), (1, 3, 0), (1, 2, 0)] := by decide
  have E1 := Lib.hid e1
  have E2 := Lib.hid e2
  have E3 := Lib.hid e3
  clear e1 e2 e3
  go_enter Try.func24, Try.ntmps24
  go_wp2_with fail
  refine (HD.out _ _).mono ?_
  rintro e w1 ⟨rfl, hb1⟩
  have B1 := Lib.hid hb1
  clear hb1
  go_wp2_with fail
  refine (HD.out _ _).mono ?_
  rintro e w2 ⟨rfl, hb2⟩
  have B2 := Lib.hid (B1.out.trans (hb2.mono B1.out.size))
  clear hb2
  go_wp2_with fail
  refine (HD.out _ _).mono ?_
  rintro e w3 ⟨rfl, hb3⟩
  have B3 := Lib.hid (B2.out.trans (hb3.mono B2.out.size))
  clear hb3
  go_wp2_with fail
  refine (turn_any (some ⟨w3.heap.size, 0, none⟩) 3 3 [(1, 3, 0), (1, 1, 0), (1, 2, 0)] _ (RdS.whole3 (L := [(1, 3, 0), (1, 1, 0), (1, 2, 0)]) (Whole.new_ w3 _ _)) (by omega)).mono ?_
  rintro e w4 ⟨A4, c4, rfl, hr4, hb4⟩
  rw [E1.out] at hr4
  have hl4 : (turnD [(1, 3, 0), (1, 1, 0), (1, 2, 0)]).length = 3 := by rw [E1.out]; rfl
  rw [hl4]
  change RdS w4 w4.heap.size 3 A4 3 c4 _ at hr4
  have B4 := Lib.hid ((B3.out.alloc B3.out.size _).trans (hb4.mono (by have := B3.out.size; simp; omega)))
  have R4 := Lib.hid hr4
  clear hr4 hb4 hl4
  go_wp2_with fail
  refine (HD.out _ _).mono ?_
  rintro e w5 ⟨rfl, hb5⟩
  have B5 := Lib.hid (B4.out.trans (hb5.mono B4.out.size))
  have R4_5 := Lib.hid (R4.out.up hb5 hb5.size)
  clear hb5
  go_wp2_with fail
  refine (HD.out _ _).mono ?_
  rintro e w6 ⟨rfl, hb6⟩
  have B6 := Lib.hid (B5.out.trans (hb6.mono B5.out.size))
  have R4_6 := Lib.hid (R4_5.out.up hb6 hb6.size)
  clear hb6
  go_wp2_with fail
  have Q6 := Lib.hid (Whole.new_ w6 46 (dartsV [(1, 1, 0), (1, 2, 0)]))
  have B6a := Lib.hid (B6.out.alloc B6.out.size (.cells #[.int .i64 1, .int .i64 1, .int .i64 0, .int .i64 1, .int .i64 2, .int .i64 0] 46))
  refine (HD.out _ _).mono ?_
  rintro e w7 ⟨rfl, hb7⟩
  have B7 := Lib.hid (B6a.out.trans (hb7.mono B6a.out.size))
  have Q7 := Lib.hid (Q6.out.below hb7)
  have R4_7 := Lib.hid ((R4_6.out.up (below1 _ (.cells #[.int .i64 1, .int .i64 1, .int .i64 0, .int .i64 1, .int .i64 2, .int .i64 0] 46)) (below1 _ _).size).up hb7 hb7.size)
  clear hb7
  go_wp2_with fail
  refine (HD.out _ _).mono ?_
  rintro e w8 ⟨rfl, hb8⟩
  have B8 := Lib.hid (B7.out.trans (hb8.mono B7.out.size))
  have Q8 := Lib.hid (Q7.out.below hb8)
  have R4_8 := Lib.hid (R4_7.out.up hb8 hb8.size)
  clear hb8
  go_wp2_with fail
  refine (rinsert_any (some ⟨w6.heap.size, 0, none⟩) 2 2 [(1, 1, 0), (1, 2, 0)] (1, 1, 0) (1, 3, 0) _ (RdS.whole3 (L := [(1, 1, 0), (1, 2, 0)]) Q8.out) (by omega)).mono ?_
  rintro e w9 ⟨A9, c9, rfl, hr9, hb9⟩
  rw [E2.out] at hr9
  have hl9 : (turnD (insR [(1, 1, 0), (1, 2, 0)] (1, 1, 0) (1, 3, 0))).length = 3 := by rw [E2.out]; rfl
  rw [hl9]
  change RdS w9 w9.heap.size 3 A9 3 c9 _ at hr9
  have B9 := Lib.hid (B8.out.trans (hb9.mono B8.out.size))
  have R9 := Lib.hid hr9
  have R4_9 := Lib.hid (R4_8.out.up hb9 hb9.size)
  clear hr9 hb9 hl9
  go_wp2_with fail
  refine (HD.out _ _).mono ?_
  rintro e w10 ⟨rfl, hb10⟩
  have B10 := Lib.hid (B9.out.trans (hb10.mono B9.out.size))
  have R4_10 := Lib.hid (R4_9.out.up hb10 hb10.size)
  have R9_10 := Lib.hid (R9.out.up hb10 hb10.size)
  clear hb10
  go_wp2_with fail
  refine (HD.out _ _).mono ?_
  rintro e w11 ⟨rfl, hb11⟩
  have B11 := Lib.hid (B10.out.trans (hb11.mono B10.out.size))
  have R4_11 := Lib.hid (R4_10.out.up hb11 hb11.size)
  have R9_11 := Lib.hid (R9_10.out.up hb11 hb11.size)
  clear hb11
  go_wp2_with fail
  have Q11 := Lib.hid (Whole.new_ w11 46 (dartsV [(1, 1, 0), (1, 2, 0)]))
  have B11a := Lib.hid (B11.out.alloc B11.out.size (.cells #[.int .i64 1, .int .i64 1, .int .i64 0, .int .i64 1, .int .i64 2, .int .i64 0] 46))
  refine (HD.out _ _).mono ?_
  rintro e w12 ⟨rfl, hb12⟩
  have B12 := Lib.hid (B11a.out.trans (hb12.mono B11a.out.size))
  have Q12 := Lib.hid (Q11.out.below hb12)
  have R4_12 := Lib.hid ((R4_11.out.up (below1 _ (.cells #[.int .i64 1, .int .i64 1, .int .i64 0, .int .i64 1, .int .i64 2, .int .i64 0] 46)) (below1 _ _).size).up hb12 hb12.size)
  have R9_12 := Lib.hid ((R9_11.out.up (below1 _ (.cells #[.int .i64 1, .int .i64 1, .int .i64 0, .int .i64 1, .int .i64 2, .int .i64 0] 46)) (below1 _ _).size).up hb12 hb12.size)
  clear hb12
  go_wp2_with fail
  refine (HD.out _ _).mono ?_
  rintro e w13 ⟨rfl, hb13⟩
  have B13 := Lib.hid (B12.out.trans (hb13.mono B12.out.size))
  have Q13 := Lib.hid (Q12.out.below hb13)
  have R4_13 := Lib.hid (R4_12.out.up hb13 hb13.size)
  have R9_13 := Lib.hid (R9_12.out.up hb13 hb13.size)
  clear hb13
  go_wp2_with fail
  refine (rinsert_any (some ⟨w11.heap.size, 0, none⟩) 2 2 [(1, 1, 0), (1, 2, 0)] (1, 9, 0) (1, 3, 0) _ (RdS.whole3 (L := [(1, 1, 0), (1, 2, 0)]) Q13.out) (by omega)).mono ?_
  rintro e w14 ⟨A14, c14, rfl, hr14, hb14⟩
  rw [E3.out] at hr14
  have hl14 : (turnD (insR [(1, 1, 0), (1, 2, 0)] (1, 9, 0) (1, 3, 0))).length = 3 := by rw [E3.out]; rfl
  rw [hl14]
  change RdS w14 w14.heap.size 3 A14 3 c14 _ at hr14
  have B14 := Lib.hid (B13.out.trans (hb14.mono B13.out.size))
  have R14 := Lib.hid hr14
  have R4_14 := Lib.hid (R4_13.out.up hb14 hb14.size)
  have R9_14 := Lib.hid (R9_13.out.up hb14 hb14.size)
  clear hr14 hb14 hl14
  go_upto_region 4 with fail
  obtain ⟨p4, q4, rfl, h4, d4⟩ := R4_14.out.darts (by omega)
  obtain ⟨p9, q9, rfl, h9, d9⟩ := R9_14.out.darts (by omega)
  obtain ⟨p14, q14, rfl, h14, d14⟩ := R14.out.darts (by omega)
  obtain ⟨x1, x2, x3⟩ := d4 0 (by decide)
  obtain ⟨x4, x5, x6⟩ := d4 2 (by decide)
  obtain ⟨y1, y2, y3⟩ := d9 1 (by decide)
  obtain ⟨z1, z2, z3⟩ := d14 1 (by decide)
  simp at x1 x2 x3 x4 x5 x6 y1 y2 y3 z1 z2 z3
  have f1 := fun w' (h : Kept Nil_ w14.drew w') => h.nil_cell (World.cell?_drew w14 _ ▸ x1)
  have f2 := fun w' (h : Kept Nil_ w14.drew w') => h.nil_cell (World.cell?_drew w14 _ ▸ x2)
  have f3 := fun w' (h : Kept Nil_ w14.drew w') => h.nil_cell (World.cell?_drew w14 _ ▸ x3)
  have f4 := fun w' (h : Kept Nil_ w14.drew w') => h.nil_cell (World.cell?_drew w14 _ ▸ x4)
  have f5 := fun w' (h : Kept Nil_ w14.drew w') => h.nil_cell (World.cell?_drew w14 _ ▸ x5)
  have f6 := fun w' (h : Kept Nil_ w14.drew w') => h.nil_cell (World.cell?_drew w14 _ ▸ x6)
  have f7 := fun w' (h : Kept Nil_ w14.drew w') => h.nil_cell (World.cell?_drew w14 _ ▸ y1)
  have f8 := fun w' (h : Kept Nil_ w14.drew w') => h.nil_cell (World.cell?_drew w14 _ ▸ y2)
  have f9 := fun w' (h : Kept Nil_ w14.drew w') => h.nil_cell (World.cell?_drew w14 _ ▸ y3)
  have f10 := fun w' (h : Kept Nil_ w14.drew w') => h.nil_cell (World.cell?_drew w14 _ ▸ z1)
  have f11 := fun w' (h : Kept Nil_ w14.drew w') => h.nil_cell (World.cell?_drew w14 _ ▸ z2)
  have f12 := fun w' (h : Kept Nil_ w14.drew w') => h.nil_cell (World.cell?_drew w14 _ ▸ z3)
  have h1 : RowKit.Hid (∀ W, Calls Try.prog 48 #[.int .i64 1] W fun e w' => e = .returned (.agg #[.int .i64 1, .int .i64 1, .int .i64 0]) ∧ Below W.heap.size W w') := dart_any 1
  have h3 : RowKit.Hid (∀ W, Calls Try.prog 48 #[.int .i64 3] W fun e w' => e = .returned (.agg #[.int .i64 1, .int .i64 3, .int .i64 0]) ∧ Below W.heap.size W w') := dart_any 3
  clear d4 d9 d14 x1 x2 x3 x4 x5 x6 y1 y2 y3 z1 z2 z3
  refine wp_region_reg (Nil_) (by kernel_rfl) ?_
  apply wpR_next 0 (some 21)
  · simp only [List.getElem?_toArray, List.getElem?_cons_succ, List.getElem?_cons_zero]; exact rfl
  · rfl
  · kernel_rfl
  · kernel_rfl
  · kernel_rfl
  · exact fun _ _ _ _ h => h
  apply Exists.intro
  apply And.intro
  · apply yr_run; rfl; intro w' hw'; go_simp; (try with_reducible rfl)
  simp only [Act.put, List.setIfInBounds_toArray, List.set_cons_zero, List.set_cons_succ]
  apply wpR_next 1 (some 22)
  · simp only [List.getElem?_toArray, List.getElem?_cons_succ, List.getElem?_cons_zero]; exact rfl
  · rfl
  · kernel_rfl
  · kernel_rfl
  · kernel_rfl
  · exact fun _ _ _ _ h => h
  apply Exists.intro
  apply And.intro
  · apply yr_run; rfl; intro w' hw'; go_simp; (try with_reducible rfl)
  simp only [Act.put, List.setIfInBounds_toArray, List.set_cons_zero, List.set_cons_succ]
  apply wpR_next 2 (some 23)
  · simp only [List.getElem?_toArray, List.getElem?_cons_succ, List.getElem?_cons_zero]; exact rfl
  · rfl
  · kernel_rfl
  · kernel_rfl
  · kernel_rfl
  · exact fun _ _ _ _ h => h
  apply Exists.intro
  apply And.intro
  · apply yr_run; rfl; intro w' hw'; go_simp; (try with_reducible rfl)
  simp only [Act.put, List.setIfInBounds_toArray, List.set_cons_zero, List.set_cons_succ]
  apply wpR_next 3 (some 24)
  · simp only [List.getElem?_toArray, List.getElem?_cons_succ, List.getElem?_cons_zero]; exact rfl
  · rfl
  · kernel_rfl
  · kernel_rfl
  · kernel_rfl
  · exact fun _ _ _ _ h => h
  apply Exists.intro
  apply And.intro
  · apply yr_run; rfl; intro w' hw'; go_simp; (try with_reducible rfl)
  simp only [Act.put, List.setIfInBounds_toArray, List.set_cons_zero, List.set_cons_succ]
  apply wpR_next 4 (some 25)
  · simp only [List.getElem?_toArray, List.getElem?_cons_succ, List.getElem?_cons_zero]; exact rfl
  · rfl
  · kernel_rfl
  · kernel_rfl
  · kernel_rfl
  · exact fun _ _ _ _ h => h
  apply Exists.intro
  apply And.intro
  · apply yr_run; rfl; intro w' hw'; go_simp; (try with_reducible rfl)
  simp only [Act.put, List.setIfInBounds_toArray, List.set_cons_zero, List.set_cons_succ]
  apply wpR_next 5 (some 26)
  · simp only [List.getElem?_toArray, List.getElem?_cons_succ, List.getElem?_cons_zero]; exact rfl
  · rfl
  · kernel_rfl
  · kernel_rfl
  · kernel_rfl
  · exact fun _ _ _ _ h => h
  apply Exists.intro
  apply And.intro
  · apply yr_run; rfl; intro w' hw'; go_simp; (try with_reducible rfl)
  simp only [Act.put, List.setIfInBounds_toArray, List.set_cons_zero, List.set_cons_succ]
  apply wpR_next 6 (some 27)
  · simp only [List.getElem?_toArray, List.getElem?_cons_succ, List.getElem?_cons_zero]; exact rfl
  · rfl
  · kernel_rfl
  · kernel_rfl
  · kernel_rfl
  · exact fun _ _ _ _ h => h
  apply Exists.intro
  apply And.intro
  · apply yr_run; rfl; intro w' hw'; go_simp; (try with_reducible rfl)
  simp only [Act.put, List.setIfInBounds_toArray, List.set_cons_zero, List.set_cons_succ]
  apply wpR_next 7 (some 28)
  · simp only [List.getElem?_toArray, List.getElem?_cons_succ, List.getElem?_cons_zero]; exact rfl
  · rfl
  · kernel_rfl
  · kernel_rfl
  · kernel_rfl
  · exact fun _ _ _ _ h => h
  apply Exists.intro
  apply And.intro
  · apply yr_call; rfl; rotate_left; intro w' hw'; exact h1.out w'; intro w'; go_simp
  simp only [Act.put, List.setIfInBounds_toArray, List.set_cons_zero, List.set_cons_succ]
  apply wpR_next 8 (some 29)
  · simp only [List.getElem?_toArray, List.getElem?_cons_succ, List.getElem?_cons_zero]; exact rfl
  · rfl
  · kernel_rfl
  · kernel_rfl
  · kernel_rfl
  · exact fun _ _ _ _ h => h
  apply Exists.intro
  apply And.intro
  · apply yr_run; rfl; intro w' hw'; go_simp; (try with_reducible rfl)
  simp only [Act.put, List.setIfInBounds_toArray, List.set_cons_zero, List.set_cons_succ]
  apply wpR_next 9 (some 30)
  · simp only [List.getElem?_toArray, List.getElem?_cons_succ, List.getElem?_cons_zero]; exact rfl
  · rfl
  · kernel_rfl
  · kernel_rfl
  · kernel_rfl
  · exact fun _ _ _ _ h => h
  apply Exists.intro
  apply And.intro
  · apply yr_run; rfl; intro w' hw'; go_simp; (try with_reducible rfl)
  simp only [Act.put, List.setIfInBounds_toArray, List.set_cons_zero, List.set_cons_succ]
  apply wpR_next 10 (some 31)
  · simp only [List.getElem?_toArray, List.getElem?_cons_succ, List.getElem?_cons_zero]; exact rfl
  · rfl
  · kernel_rfl
  · kernel_rfl
  · kernel_rfl
  · exact fun _ _ _ _ h => h
  apply Exists.intro
  apply And.intro
  · apply yr_run; rfl; intro w' hw'; go_simp; (try with_reducible rfl)
  simp only [Act.put, List.setIfInBounds_toArray, List.set_cons_zero, List.set_cons_succ]
  apply wpR_next 11 (some 32)
  · simp only [List.getElem?_toArray, List.getElem?_cons_succ, List.getElem?_cons_zero]; exact rfl
  · rfl
  · kernel_rfl
  · kernel_rfl
  · kernel_rfl
  · exact fun _ _ _ _ h => h
  apply Exists.intro
  apply And.intro
  · apply yr_run; rfl; intro w' hw'; go_simp; (try with_reducible rfl)
  simp only [Act.put, List.setIfInBounds_toArray, List.set_cons_zero, List.set_cons_succ]
  apply wpR_next 12 (some 33)
  · simp only [List.getElem?_toArray, List.getElem?_cons_succ, List.getElem?_cons_zero]; exact rfl
  · rfl
  · kernel_rfl
  · kernel_rfl
  · kernel_rfl
  · exact fun _ _ _ _ h => h
  apply Exists.intro
  apply And.intro
  · apply yr_run; rfl; intro w' hw'; go_simp; (try with_reducible rfl)
  simp only [Act.put, List.setIfInBounds_toArray, List.set_cons_zero, List.set_cons_succ]
  apply wpR_next 13 (some 34)
  · simp only [List.getElem?_toArray, List.getElem?_cons_succ, List.getElem?_cons_zero]; exact rfl
  · rfl
  · kernel_rfl
  · kernel_rfl
  · kernel_rfl
  · exact fun _ _ _ _ h => h
  apply Exists.intro
  apply And.intro
  · apply yr_run; rfl; intro w' hw'; go_simp; (try with_reducible rfl)
  simp only [Act.put, List.setIfInBounds_toArray, List.set_cons_zero, List.set_cons_succ]
  apply wpR_next 14 (some 35)
  · simp only [List.getElem?_toArray, List.getElem?_cons_succ, List.getElem?_cons_zero]; exact rfl
  · rfl
  · kernel_rfl
  · kernel_rfl
  · kernel_rfl
  · exact fun _ _ _ _ h => h
  apply Exists.intro
  apply And.intro
  · apply yr_call; rfl; rotate_left; intro w' hw'; exact h3.out w'; intro w'; go_simp
  simp only [Act.put, List.setIfInBounds_toArray, List.set_cons_zero, List.set_cons_succ]
  apply wpR_next 15 (some 36)
  · simp only [List.getElem?_toArray, List.getElem?_cons_succ, List.getElem?_cons_zero]; exact rfl
  · rfl
  · kernel_rfl
  · kernel_rfl
  · kernel_rfl
  · exact fun _ _ _ _ h => h
  apply Exists.intro
  apply And.intro
  · apply yr_run; rfl; intro w' hw'; go_simp; (try with_reducible rfl)
  simp only [Act.put, List.setIfInBounds_toArray, List.set_cons_zero, List.set_cons_succ]
  apply wpR_next 16 (some 37)
  · simp only [List.getElem?_toArray, List.getElem?_cons_succ, List.getElem?_cons_zero]; exact rfl
  · rfl
  · kernel_rfl
  · kernel_rfl
  · kernel_rfl
  · exact fun _ _ _ _ h => h
  apply Exists.intro
  apply And.intro
  · apply yr_run; rfl; intro w' hw'; go_simp; (try with_reducible rfl)
  simp only [Act.put, List.setIfInBounds_toArray, List.set_cons_zero, List.set_cons_succ]
  apply wpR_next 17 (some 38)
  · simp only [List.getElem?_toArray, List.getElem?_cons_succ, List.getElem?_cons_zero]; exact rfl
  · rfl
  · kernel_rfl
  · kernel_rfl
  · kernel_rfl
  · exact fun _ _ _ _ h => h
  apply Exists.intro
  apply And.intro
  · apply yr_run; rfl; intro w' hw'; go_simp; (try with_reducible rfl)
  simp only [Act.put, List.setIfInBounds_toArray, List.set_cons_zero, List.set_cons_succ]
  apply wpR_next 18 (some 39)
  · simp only [List.getElem?_toArray, List.getElem?_cons_succ, List.getElem?_cons_zero]; exact rfl
  · rfl
  · kernel_rfl
  · kernel_rfl
  · kernel_rfl
  · exact fun _ _ _ _ h => h
  apply Exists.intro
  apply And.intro
  · apply yr_run; rfl; intro w' hw'; go_simp; (try with_reducible rfl)
  simp only [Act.put, List.setIfInBounds_toArray, List.set_cons_zero, List.set_cons_succ]
  apply wpR_next 19 (some 40)
  · simp only [List.getElem?_toArray, List.getElem?_cons_succ, List.getElem?_cons_zero]; exact rfl
  · rfl
  · kernel_rfl
  · kernel_rfl
  · kernel_rfl
  · exact fun _ _ _ _ h => h
  apply Exists.intro
  apply And.intro
  · apply yr_run; rfl; intro w' hw'; go_simp; (try with_reducible rfl)
  simp only [Act.put, List.setIfInBounds_toArray, List.set_cons_zero, List.set_cons_succ]
  apply wpR_next 20 (some 41)
  · simp only [List.getElem?_toArray, List.getElem?_cons_succ, List.getElem?_cons_zero]; exact rfl
  · rfl
  · kernel_rfl
  · kernel_rfl
  · kernel_rfl
  · exact fun _ _ _ _ h => h
  apply Exists.intro
  apply And.intro
  · apply yr_run; rfl; intro w' hw'; go_simp; (try with_reducible rfl)
  simp only [Act.put, List.setIfInBounds_toArray, List.set_cons_zero, List.set_cons_succ]
  apply wpR_next 21 (some 42)
  · simp only [List.getElem?_toArray, List.getElem?_cons_succ, List.getElem?_cons_zero]; exact rfl
  · rfl
  · kernel_rfl
  · kernel_rfl
  · kernel_rfl
  · exact fun _ _ _ _ h => h
  apply Exists.intro
  apply And.intro
  · apply yr_run; rfl; intro w' hw'; go_simp; (try with_reducible rfl)
  simp only [Act.put, List.setIfInBounds_toArray, List.set_cons_zero, List.set_cons_succ]
  apply wpR_next 22 (some 43)
  · simp only [List.getElem?_toArray, List.getElem?_cons_succ, List.getElem?_cons_zero]; exact rfl
  · rfl
  · kernel_rfl
  · kernel_rfl
  · kernel_rfl
  · exact fun _ _ _ _ h => h
  apply Exists.intro
  apply And.intro
  · apply yr_run; rfl; intro w' hw'; go_simp; (try with_reducible rfl)
  simp only [Act.put, List.setIfInBounds_toArray, List.set_cons_zero, List.set_cons_succ]
  apply wpR_next 23 (some 44)
  · simp only [List.getElem?_toArray, List.getElem?_cons_succ, List.getElem?_cons_zero]; exact rfl
  · rfl
  · kernel_rfl
  · kernel_rfl
  · kernel_rfl
  · exact fun _ _ _ _ h => h
  apply Exists.intro
  apply And.intro
  · apply yr_run; rfl; intro w' hw'; go_simp; (try with_reducible rfl)
  simp only [Act.put, List.setIfInBounds_toArray, List.set_cons_zero, List.set_cons_succ]
  apply wpR_next 24 (some 45)
  · simp only [List.getElem?_toArray, List.getElem?_cons_succ, List.getElem?_cons_zero]; exact rfl
  · rfl
  · kernel_rfl
  · kernel_rfl
  · kernel_rfl
  · exact fun _ _ _ _ h => h
  apply Exists.intro
  apply And.intro
  · apply yr_run; rfl; intro w' hw'; go_simp; (try with_reducible rfl)
  simp only [Act.put, List.setIfInBounds_toArray, List.set_cons_zero, List.set_cons_succ]
  apply wpR_next 25 (some 46)
  · simp only [List.getElem?_toArray, List.getElem?_cons_succ, List.getElem?_cons_zero]; exact rfl
  · rfl
  · kernel_rfl
  · kernel_rfl
  · kernel_rfl
  · exact fun _ _ _ _ h => h
  apply Exists.intro
  apply And.intro
  · apply yr_run; rfl; intro w' hw'; go_simp; (try with_reducible rfl)
  simp only [Act.put, List.setIfInBounds_toArray, List.set_cons_zero, List.set_cons_succ]
  apply wpR_next 26 (some 47)
  · simp only [List.getElem?_toArray, List.getElem?_cons_succ, List.getElem?_cons_zero]; exact rfl
  · rfl
  · kernel_rfl
  · kernel_rfl
  · kernel_rfl
  · exact fun _ _ _ _ h => h
  apply Exists.intro
  apply And.intro
  · apply yr_call; rfl; rotate_left; intro w' hw'; exact h3.out w'; intro w'; go_simp
  simp only [Act.put, List.setIfInBounds_toArray, List.set_cons_zero, List.set_cons_succ]
  apply wpR_next 27 (some 48)
  · simp only [List.getElem?_toArray, List.getElem?_cons_succ, List.getElem?_cons_zero]; exact rfl
  · rfl
  · kernel_rfl
  · kernel_rfl
  · kernel_rfl
  · exact fun _ _ _ _ h => h
  apply Exists.intro
  apply And.intro
  · apply yr_run; rfl; intro w' hw'; go_simp; (try with_reducible rfl)
  simp only [Act.put, List.setIfInBounds_toArray, List.set_cons_zero, List.set_cons_succ]
  apply wpR_next 28 (some 49)
  · simp only [List.getElem?_toArray, List.getElem?_cons_succ, List.getElem?_cons_zero]; exact rfl
  · rfl
  · kernel_rfl
  · kernel_rfl
  · kernel_rfl
  · exact fun _ _ _ _ h => h
  apply Exists.intro
  apply And.intro
  · apply yr_run; rfl; intro w' hw'; go_simp; (try with_reducible rfl)
  simp only [Act.put, List.setIfInBounds_toArray, List.set_cons_zero, List.set_cons_succ]
  apply wpR_next 29 (some 50)
  · simp only [List.getElem?_toArray, List.getElem?_cons_succ, List.getElem?_cons_zero]; exact rfl
  · rfl
  · kernel_rfl
  · kernel_rfl
  · kernel_rfl
  · exact fun _ _ _ _ h => h
  apply Exists.intro
  apply And.intro
  · apply yr_run; rfl; intro w' hw'; go_simp; (try with_reducible rfl)
  simp only [Act.put, List.setIfInBounds_toArray, List.set_cons_zero, List.set_cons_succ]
  apply wpR_next 30 (some 51)
  · simp only [List.getElem?_toArray, List.getElem?_cons_succ, List.getElem?_cons_zero]; exact rfl
  · rfl
  · kernel_rfl
  · kernel_rfl
  · kernel_rfl
  · exact fun _ _ _ _ h => h
  apply Exists.intro
  apply And.intro
  · apply yr_run; rfl; intro w' hw'; go_simp; (try with_reducible rfl)
  simp only [Act.put, List.setIfInBounds_toArray, List.set_cons_zero, List.set_cons_succ]
  apply wpR_next 31 (some 52)
  · simp only [List.getElem?_toArray, List.getElem?_cons_succ, List.getElem?_cons_zero]; exact rfl
  · rfl
  · kernel_rfl
  · kernel_rfl
  · kernel_rfl
  · exact fun _ _ _ _ h => h
  apply Exists.intro
  apply And.intro
  · apply yr_run; rfl; intro w' hw'; go_simp; (try with_reducible rfl)
  simp only [Act.put, List.setIfInBounds_toArray, List.set_cons_zero, List.set_cons_succ]
  apply wpR_next 32 (some 53)
  · simp only [List.getElem?_toArray, List.getElem?_cons_succ, List.getElem?_cons_zero]; exact rfl
  · rfl
  · kernel_rfl
  · kernel_rfl
  · kernel_rfl
  · exact fun _ _ _ _ h => h
  apply Exists.intro
  apply And.intro
  · apply yr_run; rfl; intro w' hw'; go_simp; (try with_reducible rfl)
  simp only [Act.put, List.setIfInBounds_toArray, List.set_cons_zero, List.set_cons_succ]
  apply wpR_next 33 (some 54)
  · simp only [List.getElem?_toArray, List.getElem?_cons_succ, List.getElem?_cons_zero]; exact rfl
  · rfl
  · kernel_rfl
  · kernel_rfl
  · kernel_rfl
  · exact fun _ _ _ _ h => h
  apply Exists.intro
  apply And.intro
  · apply yr_run; rfl; intro w' hw'; go_simp; (try with_reducible rfl)
  simp only [Act.put, List.setIfInBounds_toArray, List.set_cons_zero, List.set_cons_succ]
  apply wpR_next 34 (some 55)
  · simp only [List.getElem?_toArray, List.getElem?_cons_succ, List.getElem?_cons_zero]; exact rfl
  · rfl
  · kernel_rfl
  · kernel_rfl
  · kernel_rfl
  · exact fun _ _ _ _ h => h
  apply Exists.intro
  apply And.intro
  · apply yr_run; rfl; intro w' hw'; go_simp; (try with_reducible rfl)
  simp only [Act.put, List.setIfInBounds_toArray, List.set_cons_zero, List.set_cons_succ]
  apply wpR_next 35 (some 56)
  · simp only [List.getElem?_toArray, List.getElem?_cons_succ, List.getElem?_cons_zero]; exact rfl
  · rfl
  · kernel_rfl
  · kernel_rfl
  · kernel_rfl
  · exact fun _ _ _ _ h => h
  apply Exists.intro
  apply And.intro
  · apply yr_run; rfl; intro w' hw'; go_simp; (try with_reducible rfl)
  simp only [Act.put, List.setIfInBounds_toArray, List.set_cons_zero, List.set_cons_succ]
  apply wpR_next 36 (some 57)
  · simp only [List.getElem?_toArray, List.getElem?_cons_succ, List.getElem?_cons_zero]; exact rfl
  · rfl
  · kernel_rfl
  · kernel_rfl
  · kernel_rfl
  · exact fun _ _ _ _ h => h
  apply Exists.intro
  apply And.intro
  · apply yr_run; rfl; intro w' hw'; go_simp; (try with_reducible rfl)
  simp only [Act.put, List.setIfInBounds_toArray, List.set_cons_zero, List.set_cons_succ]
  apply wpR_next 37 (some 58)
  · simp only [List.getElem?_toArray, List.getElem?_cons_succ, List.getElem?_cons_zero]; exact rfl
  · rfl
  · kernel_rfl
  · kernel_rfl
  · kernel_rfl
  · exact fun _ _ _ _ h => h
  apply Exists.intro
  apply And.intro
  · apply yr_run; rfl; intro w' hw'; go_simp; (try with_reducible rfl)
  simp only [Act.put, List.setIfInBounds_toArray, List.set_cons_zero, List.set_cons_succ]
  apply wpR_next 38 (some 59)
  · simp only [List.getElem?_toArray, List.getElem?_cons_succ, List.getElem?_cons_zero]; exact rfl
  · rfl
  · kernel_rfl
  · kernel_rfl
  · kernel_rfl
  · exact fun _ _ _ _ h => h
  apply Exists.intro
  apply And.intro
  · apply yr_call; rfl; rotate_left; intro w' hw'; exact h3.out w'; intro w'; go_simp
  simp only [Act.put, List.setIfInBounds_toArray, List.set_cons_zero, List.set_cons_succ]
  apply wpR_next 39 (some 60)
  · simp only [List.getElem?_toArray, List.getElem?_cons_succ, List.getElem?_cons_zero]; exact rfl
  · rfl
  · kernel_rfl
  · kernel_rfl
  · kernel_rfl
  · exact fun _ _ _ _ h => h
  apply Exists.intro
  apply And.intro
  · apply yr_run; rfl; intro w' hw'; go_simp; (try with_reducible rfl)
  simp only [Act.put, List.setIfInBounds_toArray, List.set_cons_zero, List.set_cons_succ]
  apply wpR_next 40 (some 61)
  · simp only [List.getElem?_toArray, List.getElem?_cons_succ, List.getElem?_cons_zero]; exact rfl
  · rfl
  · kernel_rfl
  · kernel_rfl
  · kernel_rfl
  · exact fun _ _ _ _ h => h
  apply Exists.intro
  apply And.intro
  · apply yr_run; rfl; intro w' hw'; go_simp; (try with_reducible rfl)
  simp only [Act.put, List.setIfInBounds_toArray, List.set_cons_zero, List.set_cons_succ]
  apply wpR_next 41 (some 0)
  · simp only [List.getElem?_toArray, List.getElem?_cons_succ, List.getElem?_cons_zero]; exact rfl
  · rfl
  · kernel_rfl
  · kernel_rfl
  · kernel_rfl
  · exact fun _ _ _ _ h => h
  apply Exists.intro
  apply And.intro
  · apply yr_run; rfl; intro w' hw'; go_simp; (try with_reducible rfl)
  simp only [Act.put, List.setIfInBounds_toArray, List.set_cons_zero, List.set_cons_succ]
  refine wpR_done (by kernel_rfl) ?_ _
  intro w' hw'
  go_wp2
  go_ret
  exact ⟨rfl, B14.out.trans (((Below.refl _ _).drew.trans (hw'.mono (Nat.le_refl _))).mono B14.out.size)⟩
end Go.Proofs.Ytgbkloilodgjfaa
