/- 'NetPlays' answers true for any calls.
   No condition beyond the row's own. -/
import Derived.Test.YtibbibpfnpjjdaaNAI
import Derived.Deep.DeepCutAuto
import Derived.Test.YtibbibpfnpjjdaaRows

/- The law of the calls. -/
namespace Go.Proofs.Ytibbibpfnpjjdaa
open Go.RowKit
set_option linter.unusedSimpArgs false
set_option linter.unusedVariables false

def PlIn (w : World) (y : Nat) (j : Nat) (v : Value) (wr : World) : Prop :=
  ∃ g t go A c es A' c' es' s, v = .pointer (some ⟨g, 0, none⟩) ∧ TwIn w.heap.size wr g t go A c es y A' c' es' s s ∧ NtOk s ∧ (∀ x ∈ s.2, x ≤ 6 * (j : Int)) ∧ Below w.heap.size w wr
theorem rows_ints (L : List Int) : rowsV intC L = ints L := by
  induction L with
  | nil => rfl
  | cons x L ih => show _ :: _ = _ :: _; rw [ih]; rfl
theorem yt_row {w : World} {y n c : Nat} {A : Option Addr} {T : List Int} (h : Whole w y 30 (ytC A n c T)) (h6 : T.length = 6) : RdS w w.heap.size 1 (some ⟨y, 1, none⟩) 6 6 (rowsV intC T) := by
  refine ⟨by rw [rows_ints]; simp [ints, h6], fun e => (by cases e), Nat.le_refl _, fun a ha _ => (by obtain rfl := Option.some.inj ha; exact h.lt), fun a ha j u hu => ?_⟩
  obtain rfl := Option.some.inj ha
  rw [Addr.add_lit]
  refine h.cell (i := 1 + j) ?_
  unfold ytC
  rw [Nat.add_comm, List.getElem?_cons_succ]
  rw [rows_ints] at hu
  exact hu
/-- The net was cloned: the new one beside the document's; the elder may be turned. -/
theorem TwIn.cloned {B : Nat} {w w1 : World} {g t : Nat} {go go' : Option Nat} {A : Option Addr} {c : Nat} {es : List Sl} {y : Nat} {A' : Option Addr} {c' : Nat} {es' : List Sl} {s : NtS} {g2 t2 : Nat} {go2 : Option Nat} {A2 : Option Addr} {c2 : Nat} (h : TwIn B w g t go A c es y A' c' es' s s) (hB : B ≤ w.heap.size)
    (h2 : NtIn w.heap.size w1 g2 t2 go2 A2 c2 es s) (h1 : NtIn B w1 g t go' A c es s) (hG : NtGo w w1 (NtT g t go (wayB A)) (NtT g t go' (wayB A))) (hap : ∀ b, NtT g2 t2 go2 (wayB A2) b → ¬ NtT g t go' (wayB A) b) :
    TwIn B w1 g2 t2 go2 A2 c2 es y A' c' es' s s ∧ TwIn B w1 g t go' A c es y A' c' es' s s ∧ ∀ b, TwS g2 t2 go2 A2 y A' b → ¬ NtT g t go' (wayB A) b := by
  have ht := (h.nstep h1 hG).1
  refine ⟨⟨h2.lo_ hB, ht.yt, fun b hb q => ?_⟩, ht, fun b hb q => ?_⟩
  · have := (h2.lt b hb).1; have := (h.yt.lt b q).2; omega
  · rcases hb with e | e
    · exact hap b e q
    · exact ht.far b q e
set_option maxRecDepth 100000 in
set_option maxHeartbeats 8000000 in
theorem law_plays (A : Option Addr) (n c : Nat) (Os : List OpA) (w : World) (h : RdS w w.heap.size 4 A n c (rowsV oC Os)) (ho : ∀ o ∈ Os, OpOk w.heap.size w o) :
    Calls Try.prog 3 #[.slice A n c] w fun e w' => e = .returned (.bool true) ∧ Below w.heap.size w w' := by
  have HR := Lib.hid h
  have HOs := Lib.hid ho
  have Hl : RowKit.Hid (Os.length = n) := Lib.hid (h.rlen oC_len (by decide))
  clear h ho
  go_enter Try.func3, Try.ntmps3
  go_wp2_with fail
  refine (shown21 w).mono ?_
  rintro e w1 ⟨rfl, hb1⟩
  have HB1 := Lib.hid hb1
  clear hb1
  go_wp2_with fail
  refine (nt_new w1).mono ?_
  rintro e w2 ⟨g, t, rfl, hW, hT, hg, ht, -, hb⟩
  have HN2 := Lib.hid ((NtIn.new hW hT hg ht).lo_ HB1.out.size)
  have HB2 := Lib.hid (bel_bl HB1.out hb)
  clear hW hT hg ht hb HB1
  have HY3 : RowKit.Hid (Whole (w2.alloc (.cells #[.slice none 0 0, .int .i64 0, .int .i64 0, .int .i64 0, .int .i64 0, .int .i64 0, .int .i64 0] 30)) w2.heap.size 30 (ytC none 0 0 [0, 0, 0, 0, 0, 0])) := Lib.hid (Whole.new_ w2 30 [_, _, _, _, _, _, _])
  have HN3 := Lib.hid (HN2.out.below (below1 w2 (.cells #[.slice none 0 0, .int .i64 0, .int .i64 0, .int .i64 0, .int .i64 0, .int .i64 0, .int .i64 0] 30)))
  have HB3 := Lib.hid (bel_al HB2.out (.cells #[.slice none 0 0, .int .i64 0, .int .i64 0, .int .i64 0, .int .i64 0, .int .i64 0, .int .i64 0] 30))
  have HLT : RowKit.Hid (∀ b, NtT g t none none b → b < w2.heap.size) := Lib.hid (fun b hb => (HN2.out.lt b hb).2)
  go_upto_region 7 with fail
  obtain ⟨w3, gw3⟩ : ∃ z, w2.alloc (.cells #[.slice none 0 0, .int .i64 0, .int .i64 0, .int .i64 0, .int .i64 0, .int .i64 0, .int .i64 0] 30) = z := ⟨_, rfl⟩
  obtain ⟨y, gy⟩ : ∃ z, w2.heap.size = z := ⟨_, rfl⟩
  have Gy : RowKit.Hid (w.heap.size ≤ y) := Lib.hid (gy ▸ HB2.out.size)
  rw [gw3] at HY3 HN3 HB3 ⊢
  rw [gy] at HY3 HLT ⊢
  clear gw3 gy HN2 HB2
  have H0 : RowKit.Hid (PlIn w y 0 (.pointer (some ⟨g, 0, none⟩)) w3) := Lib.hid ⟨g, t, none, none, 0, [], none, 0, [], zeroN, rfl, ⟨HN3.out, YtIn.new HY3.out Gy.out, fun b hb q => by
    rcases q with q | q
    · have := HLT.out b hb; omega
    · cases q⟩, zeroN_ok, by decide, HB3.out⟩
  clear HY3 HN3 HB3 HLT
  go_loopw [4, 6] (fun v4 v6 wr => ∃ j : Nat, j ≤ n ∧ j ≤ 80 ∧ v6 = .int .i64 (j : Int) ∧ RowKit.Hid (PlIn w y j v4 wr)) (fun _ v6 _ => 80 - (intOf v6).toNat)
  case atStart => exact ⟨0, Nat.zero_le _, Nat.zero_le _, rfl, H0⟩
  case round =>
    clear H0
    obtain ⟨j, hj, hj8, rfl, hin⟩ := hrel
    by_cases hlt : j < n ∧ j < 80
    · obtain ⟨hl1, hl2⟩ := hlt
      have hi1 : (j : Int) < (n : Int) := by omega
      have hi2 : (j : Int) < 80 := by omega
      obtain ⟨x, hx⟩ : ∃ x, Os[j]? = some x := ⟨_, List.getElem?_eq_getElem (by have := Hl.out; omega)⟩
      have HOx := Lib.hid (HOs.out x (List.mem_of_getElem? hx))
      obtain ⟨b, off, rfl, hbB, hpl⟩ := HR.out.place oC_len (by decide) (by omega)
      have HP := Lib.hid (hpl j x hx)
      have HbB := Lib.hid hbB
      clear hx hpl hbB
      go_upto_if 31 with fail
      go_cut [4] (fun v z => PlIn w y j v z)
      case first =>
        obtain ⟨g1, t1, go1, A1, c1, es1, A2, c2, es2, s, rfl, hTw, hs, hsm, hb⟩ := hin.out
        cases h9 : ((j : Int) % 9 == 8) with
        | true =>
          have HC := Lib.hid (nt_clone wr hTw.nt hs)
          have HTw := Lib.hid hTw
          have Hs := Lib.hid hs
          have Hsm := Lib.hid hsm
          have HB := Lib.hid hb
          clear hTw hs hsm hb hin
          go_wp2_with fail
          refine HC.out.mono ?_
          rintro e w1 ⟨g3, t3, go3, A3, c3, go4, rfl, hN2, hN1, hG, hap⟩
          obtain ⟨hc1, hc2, hc3⟩ := HTw.out.cloned HB.out.size hN2 hN1 hG hap
          have HT1 := Lib.hid hc1
          have HO1 := Lib.hid hc2
          have HF1 := Lib.hid hc3
          have HB1 := Lib.hid (HB.out.trans (HTw.out.nt.far hG HB.out.size))
          clear hN2 hN1 hG hap hc1 hc2 hc3 HC HTw HB
          go_wp2_with fail
          refine (nt_send _ (HO1.out.nt.below (below1 w1 _)) Hs.out _ _ _ [((f1, []), (none, 0))] (one_in (Whole.new_ w1 34 (frCells f1 none 0 0))) (by decide) (one_far (fun q => by have := (HO1.out.nt.lt _ q).2; omega)) (fun x hx => by have := Hsm.out x hx; omega)).mono ?_
          rintro e w3 ⟨rfl, go5, A5, c5, es5, hN, hG⟩
          have hT2 := HT1.out.below (below1 w1 (.cells (frCells f1 none 0 0).toArray 34))
          have HT3 := Lib.hid (hT2.keep hG.k HF1.out ((HO1.out.nt.below (below1 w1 (.cells (frCells f1 none 0 0).toArray 34))).nob))
          have HN3 := Lib.hid hN
          have HF3 : RowKit.Hid (∀ b, TwS g3 t3 go3 A3 y A2 b → ¬ NtT g1 t1 go5 (wayB A5) b) := Lib.hid (fun b hb q => by
            rcases hG.n b q with q2 | q2
            · exact HF1.out b hb q2
            · have := (hT2.lt b hb).2; omega)
          have HB3 := Lib.hid ((bel_al HB1.out (.cells (frCells f1 none 0 0).toArray 34)).trans ((HO1.out.nt.below (below1 w1 (.cells (frCells f1 none 0 0).toArray 34))).far hG (Nat.le_trans HB1.out.size (below1 w1 (.cells (frCells f1 none 0 0).toArray 34)).size)))
          have hok3 := NtOk.sends [(f1, [])] s Hs.out (fun f hf b hb => by rw [List.mem_singleton.1 hf] at hb; cases hb)
          have hsm3 := sendN_small [(f1, [])] s 480 (fun x hx => by have := Hsm.out x hx; omega) (by decide)
          have HD := Lib.hid (nt_drop' w3 hN hok3 0 (fun x hx => by have := hsm3 x hx; simp at this; omega))
          clear hN hG hT2 HT1 HO1 HF1 HB1 hok3 hsm3
          go_wp2_with fail
          refine HD.out.mono ?_
          rintro e w4 ⟨rfl, go6, A6, c6, es6, hN, hG⟩
          have HT4 := Lib.hid (HT3.out.keep hG.k HF3.out HN3.out.nob)
          have HB4 := Lib.hid (HB3.out.trans (HN3.out.far hG HB3.out.size))
          clear hN hG HD
          go_wp2_with fail
          go_meet
          exact ⟨g3, t3, go3, A3, c3, es1, A2, c2, es2, s, rfl, HT4.out, Hs.out, Hsm.out, HB4.out⟩
        | false =>
          go_wp2_with fail
          go_meet
          exact hin.out
      case rest =>
        clear hin
        obtain ⟨g1, t1, go1, A1, c1, es1, A2, c2, es2, s, rfl, hTw, hs, hsm, hb⟩ := hcut
        have HD := Lib.hid (does_any wc hTw hs x (HOx.out.below hb) (fun x hx => by have := hsm x hx; omega))
        have HPw : RowKit.Hid (∀ j' v, (oC x)[j']? = some v → wc.cell? ((⟨b, off + j * 4, none⟩ : Addr).add j') = some v) := Lib.hid (fun j' v hv => (hb.cell (p := (⟨b, off + j * 4, none⟩ : Addr).add j') (by rw [add_block]; exact HbB.out)).trans (HP.out j' v hv))
        have Hs := Lib.hid hs
        have Hsm := Lib.hid hsm
        have HTw := Lib.hid hTw
        have HB := Lib.hid hb
        clear hs hsm hTw hb
        go_upto_region 16 with fail
        refine wp_region_lit ?_
        refine wl_read (v := ?_) (some 43) rfl (by rfl) ?_ ?_
        rotate_left
        · go_simp; (try with_reducible rfl)
        simp only [Act.put, List.setIfInBounds_toArray, List.set_cons_zero, List.set_cons_succ]
        refine wl_read (v := ?_) (some 44) rfl (by rfl) ?_ ?_
        rotate_left
        · go_simp; (try with_reducible rfl)
        simp only [Act.put, List.setIfInBounds_toArray, List.set_cons_zero, List.set_cons_succ]
        refine wl_read (v := ?_) (some 45) rfl (by rfl) ?_ ?_
        rotate_left
        · go_simp; (try with_reducible rfl)
        simp only [Act.put, List.setIfInBounds_toArray, List.set_cons_zero, List.set_cons_succ]
        refine wl_read (v := ?_) (some 46) rfl (by rfl) ?_ ?_
        rotate_left
        · go_simp; (try with_reducible rfl)
        simp only [Act.put, List.setIfInBounds_toArray, List.set_cons_zero, List.set_cons_succ]
        refine wl_read (v := ?_) (some 47) rfl (by rfl) ?_ ?_
        rotate_left
        · go_simp; (try with_reducible rfl)
        simp only [Act.put, List.setIfInBounds_toArray, List.set_cons_zero, List.set_cons_succ]
        refine wl_load_at (some 48) rfl (by rfl) 40 (.tmp 47) rfl ⟨b, off + j * 4, none⟩ rfl (oC x) _ HPw.out Try.underlying40 rfl (by kernel_rfl) ?_
        simp only [Act.put, List.setIfInBounds_toArray, List.set_cons_zero, List.set_cons_succ]
        go_wp2_with fail
        refine HD.out.mono ?_
        rintro e w5 ⟨rfl, go3, A3, c3, es3, A4, c4, es4, hT5, hG5⟩
        have HT5 := Lib.hid hT5
        have HB5 := Lib.hid (HB.out.trans (hG5.k.below HB.out.size (fun i hi e => by have := (HTw.out.lt i e).1; omega)))
        have Hok5 := Lib.hid (opN_ok Hs.out (OpOk.bytes HOx.out))
        have Hsm5 := Lib.hid (opN_small (o := x) Hsm.out (by omega))
        clear hT5 hG5 HD HTw HB Hs Hsm HPw HP HOx
        obtain ⟨s5, gs5⟩ : ∃ z, opN s x = z := ⟨_, rfl⟩
        rw [gs5] at HT5 Hok5 Hsm5
        clear gs5
        have HL : RowKit.Hid (∀ w', Kept Nil_ w5.drew w' → Calls Try.prog 14 #[.pointer (some ⟨g1, 0, none⟩)] w' fun e w'' => e = .returned (.int .i64 (s5.1.length : Int)) ∧ Below w'.heap.size w' w'') := Lib.hid (fun w' hk => (nt_len g1 A3 s5.1.length c3 t1 w' (hk.whole (HT5.out.below ((Below.refl _ _).drew)).nt.box (fun q => q))).mono fun e w'' ⟨h1, h2⟩ => ⟨h1, h2 ▸ Below.refl _ _⟩)
        have ld0 : ∀ w', Kept Nil_ w5.drew w' → w'.cell? ⟨y, 0, none⟩ = some (.slice A4 s5.1.length c4) := fun w' hk => hk.nil_cell ((HT5.out.below ((Below.refl _ _).drew)).yt.box.cell (i := 0) rfl)
        go_upto_region 17 with fail
        refine wp_region_reg (Nil_) (by kernel_rfl) ?_
        apply wpR_next 0 (some 50)
        · simp only [List.getElem?_toArray, List.getElem?_cons_succ, List.getElem?_cons_zero]; exact rfl
        · rfl
        · kernel_rfl
        · kernel_rfl
        · kernel_rfl
        · exact fun _ _ _ _ h => h
        apply Exists.intro
        apply And.intro
        · apply yr_run; rfl; intro w' hw'; go_simp; (try with_reducible rfl)
        simp only [Act.put, List.setIfInBounds_toArray, List.set_cons_zero, List.set_cons_succ]
        apply wpR_next 1 (some 51)
        · simp only [List.getElem?_toArray, List.getElem?_cons_succ, List.getElem?_cons_zero]; exact rfl
        · rfl
        · kernel_rfl
        · kernel_rfl
        · kernel_rfl
        · exact fun _ _ _ _ h => h
        apply Exists.intro
        apply And.intro
        · apply yr_run; rfl; intro w' hw'; go_simp; (try with_reducible rfl)
        simp only [Act.put, List.setIfInBounds_toArray, List.set_cons_zero, List.set_cons_succ]
        apply wpR_next 2 (some 52)
        · simp only [List.getElem?_toArray, List.getElem?_cons_succ, List.getElem?_cons_zero]; exact rfl
        · rfl
        · kernel_rfl
        · kernel_rfl
        · kernel_rfl
        · exact fun _ _ _ _ h => h
        apply Exists.intro
        apply And.intro
        · apply yr_run; rfl; intro w' hw'; go_simp; (try with_reducible rfl)
        simp only [Act.put, List.setIfInBounds_toArray, List.set_cons_zero, List.set_cons_succ]
        apply wpR_next 3 (some 53)
        · simp only [List.getElem?_toArray, List.getElem?_cons_succ, List.getElem?_cons_zero]; exact rfl
        · rfl
        · kernel_rfl
        · kernel_rfl
        · kernel_rfl
        · exact fun _ _ _ _ h => h
        apply Exists.intro
        apply And.intro
        · apply yr_run; rfl; intro w' hw'; go_simp; (try with_reducible rfl)
        simp only [Act.put, List.setIfInBounds_toArray, List.set_cons_zero, List.set_cons_succ]
        apply wpR_next 4 (some 54)
        · simp only [List.getElem?_toArray, List.getElem?_cons_succ, List.getElem?_cons_zero]; exact rfl
        · rfl
        · kernel_rfl
        · kernel_rfl
        · kernel_rfl
        · exact fun _ _ _ _ h => h
        apply Exists.intro
        apply And.intro
        · apply yr_call; rfl; rotate_left; intro w' hw'; exact HL.out w' hw'; intro w'; go_simp
        simp only [Act.put, List.setIfInBounds_toArray, List.set_cons_zero, List.set_cons_succ]
        apply wpR_next 5 (some 55)
        · simp only [List.getElem?_toArray, List.getElem?_cons_succ, List.getElem?_cons_zero]; exact rfl
        · rfl
        · kernel_rfl
        · kernel_rfl
        · kernel_rfl
        · exact fun _ _ _ _ h => h
        apply Exists.intro
        apply And.intro
        · apply yr_run; rfl; intro w' hw'; go_simp; (try with_reducible rfl)
        simp only [Act.put, List.setIfInBounds_toArray, List.set_cons_zero, List.set_cons_succ]
        apply wpR_next 6 (some 56)
        · simp only [List.getElem?_toArray, List.getElem?_cons_succ, List.getElem?_cons_zero]; exact rfl
        · rfl
        · kernel_rfl
        · kernel_rfl
        · kernel_rfl
        · exact fun _ _ _ _ h => h
        apply Exists.intro
        apply And.intro
        · apply yr_run; rfl; intro w' hw'; go_simp; (try with_reducible rfl)
        simp only [Act.put, List.setIfInBounds_toArray, List.set_cons_zero, List.set_cons_succ]
        apply wpR_next 7 (some 57)
        · simp only [List.getElem?_toArray, List.getElem?_cons_succ, List.getElem?_cons_zero]; exact rfl
        · rfl
        · kernel_rfl
        · kernel_rfl
        · kernel_rfl
        · exact fun _ _ _ _ h => h
        apply Exists.intro
        apply And.intro
        · apply yr_run; rfl; intro w' hw'; go_simp; (try with_reducible rfl)
        simp only [Act.put, List.setIfInBounds_toArray, List.set_cons_zero, List.set_cons_succ]
        apply wpR_next 8 (some 58)
        · simp only [List.getElem?_toArray, List.getElem?_cons_succ, List.getElem?_cons_zero]; exact rfl
        · rfl
        · kernel_rfl
        · kernel_rfl
        · kernel_rfl
        · exact fun _ _ _ _ h => h
        apply Exists.intro
        apply And.intro
        · apply yr_run; rfl; intro w' hw'; go_simp; (try with_reducible rfl)
        simp only [Act.put, List.setIfInBounds_toArray, List.set_cons_zero, List.set_cons_succ]
        apply wpR_next 9 (some 59)
        · simp only [List.getElem?_toArray, List.getElem?_cons_succ, List.getElem?_cons_zero]; exact rfl
        · rfl
        · kernel_rfl
        · kernel_rfl
        · kernel_rfl
        · exact fun _ _ _ _ h => h
        apply Exists.intro
        apply And.intro
        · apply yr_run; rfl; intro w' hw'; go_simp; (try with_reducible rfl)
        simp only [Act.put, List.setIfInBounds_toArray, List.set_cons_zero, List.set_cons_succ]
        apply wpR_next 10 (some 60)
        · simp only [List.getElem?_toArray, List.getElem?_cons_succ, List.getElem?_cons_zero]; exact rfl
        · rfl
        · kernel_rfl
        · kernel_rfl
        · kernel_rfl
        · exact fun _ _ _ _ h => h
        apply Exists.intro
        apply And.intro
        · apply yr_run; rfl; intro w' hw'; go_simp; (try with_reducible rfl)
        simp only [Act.put, List.setIfInBounds_toArray, List.set_cons_zero, List.set_cons_succ]
        apply wpR_next 11 (some 61)
        · simp only [List.getElem?_toArray, List.getElem?_cons_succ, List.getElem?_cons_zero]; exact rfl
        · rfl
        · kernel_rfl
        · kernel_rfl
        · kernel_rfl
        · exact fun _ _ _ _ h => h
        apply Exists.intro
        apply And.intro
        · apply yr_run; rfl; intro w' hw'; go_simp; (try with_reducible rfl)
        simp only [Act.put, List.setIfInBounds_toArray, List.set_cons_zero, List.set_cons_succ]
        refine wpR_done (by kernel_rfl) ?_ _

        intro W6 hw6
        have HT6 := Lib.hid (HT5.out.below ((Below.refl w5.heap.size w5).drew.trans hw6))
        have HB6 := Lib.hid (bel_bl HB5.out ((Below.refl w5.heap.size w5).drew.trans hw6))
        clear hw6 ld0 HL HT5 HB5
        go_wp2
        go_roundw
        case rel =>
          refine ⟨j + 1, by omega, by omega, by go_num, Lib.hid ⟨g1, t1, go3, A3, c3, es3, A4, c4, es4, s5, rfl, HT6.out, Hok5.out, fun x hx => by have := Hsm5.out x hx; omega, HB6.out⟩⟩
        case measure => simp [intOf]; omega
    · have h9 : ¬ ((j : Int) < (n : Int) ∧ (j : Int) < 80) := fun q => hlt ⟨by omega, by omega⟩
      obtain ⟨g1, t1, go1, A1, c1, es1, A2, c2, es2, s, rfl, hTw, hs, hsm, hb⟩ := hin.out
      have HW := Lib.hid (hTw.below ((Below.refl wr.heap.size wr).drew))
      have HS6 := Lib.hid hs.six
      have HBw : RowKit.Hid (Below w.heap.size w wr.drew) := Lib.hid hb.drew
      have HLO : RowKit.Hid (∀ i, Own t1 go1 i → w.heap.size ≤ i) := Lib.hid (fun i q => (hTw.nt.lt i (by rcases q with q | q; exact .inr (.inl q); exact .inr (.inr (.inl q)))).1)
      clear hTw hs hsm hb hin
      by_cases hkn2 : (j : Int) < (n : Int)
      · have hk6b : decide ((j : Int) < 80) = false := decide_eq_false (fun q => h9 ⟨hkn2, q⟩)
        clear h9 hlt
        go_upto_region 19 with fail
        clear hk6b
        refine wp_region_reg (Own t1 go1) (by kernel_rfl) ?_
        apply wpR_next 0 (some 62)
        · simp only [List.getElem?_toArray, List.getElem?_cons_succ, List.getElem?_cons_zero]; exact rfl
        · rfl
        · kernel_rfl
        · kernel_rfl
        · kernel_rfl
        · exact fun _ _ _ _ h => h
        apply Exists.intro
        apply And.intro
        · apply yr_run; rfl; intro w' hw'; go_simp; (try with_reducible rfl)
        simp only [Act.put, List.setIfInBounds_toArray, List.set_cons_zero, List.set_cons_succ]
        apply wpR_next 2 (some 64)
        · simp only [List.getElem?_toArray, List.getElem?_cons_succ, List.getElem?_cons_zero]; exact rfl
        · rfl
        · kernel_rfl
        · kernel_rfl
        · kernel_rfl
        · exact fun _ _ _ _ h => h
        apply Exists.intro
        apply And.intro
        · apply yr_run; rfl; intro w' hw'; go_simp; (try with_reducible rfl)
        simp only [Act.put, List.setIfInBounds_toArray, List.set_cons_zero, List.set_cons_succ]
        apply wpR_next 3 (some 65)
        · simp only [List.getElem?_toArray, List.getElem?_cons_succ, List.getElem?_cons_zero]; exact rfl
        · rfl
        · kernel_rfl
        · kernel_rfl
        · kernel_rfl
        · exact fun _ _ _ _ h => h
        apply Exists.intro
        apply And.intro
        · apply yr_run; rfl; intro w' hw'; go_simp; (try with_reducible rfl)
        simp only [Act.put, List.setIfInBounds_toArray, List.set_cons_zero, List.set_cons_succ]
        apply wpR_next 4 (some 66)
        · simp only [List.getElem?_toArray, List.getElem?_cons_succ, List.getElem?_cons_zero]; exact rfl
        · rfl
        · kernel_rfl
        · kernel_rfl
        · kernel_rfl
        · exact fun _ _ _ _ h => h
        apply Exists.intro
        apply And.intro
        · apply yr_run; rfl; intro w' hw'; go_simp; (try with_reducible rfl)
        simp only [Act.put, List.setIfInBounds_toArray, List.set_cons_zero, List.set_cons_succ]
        apply wpR_next 5 (some 67)
        · simp only [List.getElem?_toArray, List.getElem?_cons_succ, List.getElem?_cons_zero]; exact rfl
        · rfl
        · kernel_rfl
        · kernel_rfl
        · kernel_rfl
        · exact fun _ _ _ _ h => h
        apply Exists.intro
        apply And.intro
        · apply yr_run; rfl; intro w' hw'; go_simp; (try with_reducible rfl)
        simp only [Act.put, List.setIfInBounds_toArray, List.set_cons_zero, List.set_cons_succ]
        apply wpR_call 1 (some 63)
        · simp only [List.getElem?_toArray, List.getElem?_cons_succ, List.getElem?_cons_zero]; exact rfl
        · rfl
        · kernel_rfl
        · rfl
        · intro w'; go_simp; first | done | exact ⟨rfl, rfl⟩ | with_reducible rfl
        intro w' hw'
        refine (nt_tally g1 A1 s.1.length c1 t1 go1 s.2 w' (HW.out.below hw').nt.box (HW.out.below hw').nt.tal).mono ?_
        rintro e w'' ⟨hb, rfl, hhb, hWh, go9, hT9, hS9⟩
        refine ⟨_, rfl, hS9.k, ?_⟩
        have HI := Lib.hid (ints_eq (some ⟨hb, 0, none⟩) (some ⟨y, 1, none⟩) 6 6 6 s.2)
        have HRh := Lib.hid (show RdS w'' w''.heap.size 1 (some ⟨hb, 0, none⟩) 6 6 (rowsV intC s.2) from rows_ints s.2 ▸ RdS.of_whole hWh (by simp [ints, HS6.out]))
        have HRy := Lib.hid (yt_row (hS9.k.whole (HW.out.below hw').yt.box (fun q => (HW.out.below hw').far y (by rcases q with q | q; exact .inr (.inl q); exact .inr (.inr (.inl q))) (.inl rfl))) HS6.out)
        rw [HS6.out]
        have HBv := Lib.hid ((bel_bl HBw.out hw').trans (hS9.k.below (Nat.le_trans HBw.out.size hw'.size) (fun i hi e => by have := HLO.out i e; omega)))
        clear hw' hhb hWh hT9 hS9
        obtain ⟨V1, gV1⟩ : ∃ z, w'' = z := ⟨_, rfl⟩
        rw [gV1] at HRh HRy HBv ⊢
        clear gV1
        simp only [Act.put, List.setIfInBounds_toArray, List.set_cons_zero, List.set_cons_succ]
        apply wpR_call 6 (some 68)
        · simp only [List.getElem?_toArray, List.getElem?_cons_succ, List.getElem?_cons_zero]; exact rfl
        · rfl
        · kernel_rfl
        · rfl
        · intro w'; go_simp; first | done | exact ⟨rfl, rfl⟩ | with_reducible rfl
        intro w' hw'
        refine (HI.out w' (HRh.out.bl hw') (HRy.out.bl hw') (by decide)).mono ?_
        rintro e w'' ⟨rfl, hb2⟩
        refine ⟨_, rfl, Kept.of_below hb2, ?_⟩
        have HBu := Lib.hid (bel_bl (bel_bl HBv.out hw') hb2)
        clear hw' hb2
        simp only [Act.put, List.setIfInBounds_toArray, List.set_cons_zero, List.set_cons_succ]
        apply wpR_next 7 (some 2)
        · simp only [List.getElem?_toArray, List.getElem?_cons_succ, List.getElem?_cons_zero]; exact rfl
        · rfl
        · kernel_rfl
        · kernel_rfl
        · kernel_rfl
        · exact fun _ _ _ _ h => h
        apply Exists.intro
        apply And.intro
        · apply yr_run; rfl; intro w' hw'; go_simp; (try with_reducible rfl)
        simp only [Act.put, List.setIfInBounds_toArray, List.set_cons_zero, List.set_cons_succ]
        refine wpR_done (by kernel_rfl) ?_ _

        intro W6 hw6
        have HBt := Lib.hid (bel_bl HBu.out hw6)
        clear hw6
        go_wp2
        go_ret
        exact ⟨rfl, HBt.out⟩
      · have hk6b : decide ((j : Int) < (n : Int)) = false := decide_eq_false hkn2
        clear h9 hlt
        go_upto_region 19 with fail
        clear hk6b
        refine wp_region_reg (Own t1 go1) (by kernel_rfl) ?_
        apply wpR_next 0 (some 62)
        · simp only [List.getElem?_toArray, List.getElem?_cons_succ, List.getElem?_cons_zero]; exact rfl
        · rfl
        · kernel_rfl
        · kernel_rfl
        · kernel_rfl
        · exact fun _ _ _ _ h => h
        apply Exists.intro
        apply And.intro
        · apply yr_run; rfl; intro w' hw'; go_simp; (try with_reducible rfl)
        simp only [Act.put, List.setIfInBounds_toArray, List.set_cons_zero, List.set_cons_succ]
        apply wpR_next 2 (some 64)
        · simp only [List.getElem?_toArray, List.getElem?_cons_succ, List.getElem?_cons_zero]; exact rfl
        · rfl
        · kernel_rfl
        · kernel_rfl
        · kernel_rfl
        · exact fun _ _ _ _ h => h
        apply Exists.intro
        apply And.intro
        · apply yr_run; rfl; intro w' hw'; go_simp; (try with_reducible rfl)
        simp only [Act.put, List.setIfInBounds_toArray, List.set_cons_zero, List.set_cons_succ]
        apply wpR_next 3 (some 65)
        · simp only [List.getElem?_toArray, List.getElem?_cons_succ, List.getElem?_cons_zero]; exact rfl
        · rfl
        · kernel_rfl
        · kernel_rfl
        · kernel_rfl
        · exact fun _ _ _ _ h => h
        apply Exists.intro
        apply And.intro
        · apply yr_run; rfl; intro w' hw'; go_simp; (try with_reducible rfl)
        simp only [Act.put, List.setIfInBounds_toArray, List.set_cons_zero, List.set_cons_succ]
        apply wpR_next 4 (some 66)
        · simp only [List.getElem?_toArray, List.getElem?_cons_succ, List.getElem?_cons_zero]; exact rfl
        · rfl
        · kernel_rfl
        · kernel_rfl
        · kernel_rfl
        · exact fun _ _ _ _ h => h
        apply Exists.intro
        apply And.intro
        · apply yr_run; rfl; intro w' hw'; go_simp; (try with_reducible rfl)
        simp only [Act.put, List.setIfInBounds_toArray, List.set_cons_zero, List.set_cons_succ]
        apply wpR_next 5 (some 67)
        · simp only [List.getElem?_toArray, List.getElem?_cons_succ, List.getElem?_cons_zero]; exact rfl
        · rfl
        · kernel_rfl
        · kernel_rfl
        · kernel_rfl
        · exact fun _ _ _ _ h => h
        apply Exists.intro
        apply And.intro
        · apply yr_run; rfl; intro w' hw'; go_simp; (try with_reducible rfl)
        simp only [Act.put, List.setIfInBounds_toArray, List.set_cons_zero, List.set_cons_succ]
        apply wpR_call 1 (some 63)
        · simp only [List.getElem?_toArray, List.getElem?_cons_succ, List.getElem?_cons_zero]; exact rfl
        · rfl
        · kernel_rfl
        · rfl
        · intro w'; go_simp; first | done | exact ⟨rfl, rfl⟩ | with_reducible rfl
        intro w' hw'
        refine (nt_tally g1 A1 s.1.length c1 t1 go1 s.2 w' (HW.out.below hw').nt.box (HW.out.below hw').nt.tal).mono ?_
        rintro e w'' ⟨hb, rfl, hhb, hWh, go9, hT9, hS9⟩
        refine ⟨_, rfl, hS9.k, ?_⟩
        have HI := Lib.hid (ints_eq (some ⟨hb, 0, none⟩) (some ⟨y, 1, none⟩) 6 6 6 s.2)
        have HRh := Lib.hid (show RdS w'' w''.heap.size 1 (some ⟨hb, 0, none⟩) 6 6 (rowsV intC s.2) from rows_ints s.2 ▸ RdS.of_whole hWh (by simp [ints, HS6.out]))
        have HRy := Lib.hid (yt_row (hS9.k.whole (HW.out.below hw').yt.box (fun q => (HW.out.below hw').far y (by rcases q with q | q; exact .inr (.inl q); exact .inr (.inr (.inl q))) (.inl rfl))) HS6.out)
        rw [HS6.out]
        have HBv := Lib.hid ((bel_bl HBw.out hw').trans (hS9.k.below (Nat.le_trans HBw.out.size hw'.size) (fun i hi e => by have := HLO.out i e; omega)))
        clear hw' hhb hWh hT9 hS9
        obtain ⟨V1, gV1⟩ : ∃ z, w'' = z := ⟨_, rfl⟩
        rw [gV1] at HRh HRy HBv ⊢
        clear gV1
        simp only [Act.put, List.setIfInBounds_toArray, List.set_cons_zero, List.set_cons_succ]
        apply wpR_call 6 (some 68)
        · simp only [List.getElem?_toArray, List.getElem?_cons_succ, List.getElem?_cons_zero]; exact rfl
        · rfl
        · kernel_rfl
        · rfl
        · intro w'; go_simp; first | done | exact ⟨rfl, rfl⟩ | with_reducible rfl
        intro w' hw'
        refine (HI.out w' (HRh.out.bl hw') (HRy.out.bl hw') (by decide)).mono ?_
        rintro e w'' ⟨rfl, hb2⟩
        refine ⟨_, rfl, Kept.of_below hb2, ?_⟩
        have HBu := Lib.hid (bel_bl (bel_bl HBv.out hw') hb2)
        clear hw' hb2
        simp only [Act.put, List.setIfInBounds_toArray, List.set_cons_zero, List.set_cons_succ]
        apply wpR_next 7 (some 2)
        · simp only [List.getElem?_toArray, List.getElem?_cons_succ, List.getElem?_cons_zero]; exact rfl
        · rfl
        · kernel_rfl
        · kernel_rfl
        · kernel_rfl
        · exact fun _ _ _ _ h => h
        apply Exists.intro
        apply And.intro
        · apply yr_run; rfl; intro w' hw'; go_simp; (try with_reducible rfl)
        simp only [Act.put, List.setIfInBounds_toArray, List.set_cons_zero, List.set_cons_succ]
        refine wpR_done (by kernel_rfl) ?_ _

        intro W6 hw6
        have HBt := Lib.hid (bel_bl HBu.out hw6)
        clear hw6
        go_wp2
        go_ret
        exact ⟨rfl, HBt.out⟩
end Go.Proofs.Ytibbibpfnpjjdaa

/- 'NetPlays' answers true for any calls.
   No condition beyond the row's own. -/
namespace Go.Proofs.Ytibbibpfnpjjdaa
open Go.ChangeShapes Go.WideShapes Go.ChangeAt Go.RowKit
namespace lawNetPlays

set_option maxRecDepth 100000 in
theorem contract (H : Type) (enc : TypeId × Value → H) (W : World) (base : Nat) (args : Array Value) (ds gs : List (DataW H)) (before : List MemPlace)
    (hval : ∀ (j : Nat) t v, Try.f3.params[j]? = some t → args[j]? = some v → Value.okWide Try.prog W .any base t v)
    (hW : DataW.Whole enc Try.prog Try.f3.params.toList Rows.netPlaysSpec.vars false W args.toList ds gs before) :
    Calls Try.prog 3 args W fun e W' => ∃ v, e = .returned v ∧ Rows.netPlaysSpec.post enc Try.prog Try.f3 false true false false W args v W' := by
  have hW' := hW
  obtain ⟨p, q, hA, hV, rfl, hfz, hnd⟩ := hW
  obtain ⟨rfl, rfl⟩ := trodVars_none hV
  rw [Try.params3] at hA hval
  obtain ⟨v0, d0, rfl, rfl, h0⟩ := trodAll_one hA
  obtain ⟨a, rfl, hx0⟩ := open_row1_slice (row1_opn H) Try.underlying22 (by kernel_rfl) rawC_len (by decide) (hval 0 22 v0 rfl rfl) h0
  refine (law_plays a.1 a.2.1 a.2.2.1 (a.2.2.2.map opOf) W (by rw [← rows_op]; exact hx0.2.1) (fun o ho => by obtain ⟨z, hz, rfl⟩ := List.mem_map.1 ho; exact op_ok (hx0.2.2 z hz))).mono fun e W' ⟨he, hb⟩ => ⟨_, he, ?_⟩
  exact law_post Try.laidOut (by kernel_rfl) (tb := 4) (by kernel_rfl) Try.underlying4 rfl ⟨rfl, rfl, rfl⟩ hW' hb

set_option maxRecDepth 100000 in
theorem lifted (os : Os) (started : os.Started) (H : Type) (enc : TypeId × Value → H) :
    ReturnsInHanded {} Try.checked os 3 .any (Rows.netPlaysSpec.pre6 enc Try.prog Try.f3 Rows.netPlaysRow.domain false) (Rows.netPlaysSpec.post enc Try.prog Try.f3 false true false false) := by
  refine returnsInHanded_of_change (C := Try.checked) Try.own started (by kernel_rfl) Try.func3
    (ChangeSpec.witness6 (enc := enc) (C := Try.checked) false ⟨#[], #[.slice none 0 0], []⟩ 8 (by kernel_rfl) (by kernel_rfl) (by kernel_rfl) (by kernel_rfl)) ?_
  intro W base args ds gs before hval hW _ _
  exact contract H enc W base args ds gs before hval hW

theorem proved : Rows.NetPlaysSaid :=
  OpenClaim.holds_of_wide 3 Try.f3 rfl rfl rfl rfl rfl rfl rfl ⟨rfl, rfl, rfl, rfl, rfl⟩ rfl rfl rfl rfl rfl (by kernel_rfl) Try.func3 (by kernel_rfl)
    (of_decide_eq_true (by kernel_rfl)) (by unfold Func.isWrapper; first | (rw [if_pos (by decide +kernel)]; kernel_rfl) | (rw [if_neg (by decide +kernel)]; exact ⟨rfl, rfl⟩))
    (fun os started H enc _ => lifted os started H enc)
end lawNetPlays
end Go.Proofs.Ytibbibpfnpjjdaa
