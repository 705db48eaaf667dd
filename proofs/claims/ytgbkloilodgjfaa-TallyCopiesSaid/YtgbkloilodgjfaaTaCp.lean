/- TallyCopies' walk. -/
import Derived.Test.YtgbkloilodgjfaaTaM
import Derived.Deep.DeepCutAuto
namespace Go.Proofs.Ytgbkloilodgjfaa
open Go.RowKit
set_option linter.unusedSimpArgs false

/-- Three tallies of the law's own that share nothing. -/
structure Th (w : World) (a : Nat) (ga : Option Nat) (b : Nat) (gb : Option Nat) (c : Nat) (gc : Option Nat) (L M N : List Int) (x : World) : Prop where
  ab : Tw w a ga b gb L M x
  ac : Tw w a ga c gc L N x
  bc : Tw w b gb c gc M N x
section
variable {w x x' : World} {a b c : Nat} {ga gb gc g' : Option Nat} {L M N L' : List Int}
theorem Th.one (h : Th w a ga b gb c gc L M N x) (ht : Tl x' a g' L') (hs : Stp x x' a ga g') : Th w a g' b gb c gc L' M N x' :=
  have h1 := h.ab.one ht hs
  have h2 := h.ac.one ht hs
  ⟨h1, h2, ⟨h1.tb, h2.tb, h.bc.ne, h.bc.sep, h1.below, h.bc.a0, h.bc.b0, h.bc.ga0, h.bc.gb0⟩⟩
theorem Th.rot (h : Th w a ga b gb c gc L M N x) : Th w b gb c gc a ga M N L x := ⟨h.bc, h.ab.symm, h.ac.symm⟩
theorem Th.up (h : Th w a ga b gb c gc L M N x) (hx : Below x.heap.size x x') : Th w a ga b gb c gc L M N x' := ⟨h.ab.up hx, h.ac.up hx, h.bc.up hx⟩
theorem Th.cloned (h : Tw w a ga b gb L M x) (hc : x.heap.size ≤ c) (hgc : ∀ z, gc = some z → x.heap.size ≤ z) (hsep : gc = none ∨ gc ≠ g') (htc : Tl x' c gc L) (hta : Tl x' a g' L) (hs : Stp x x' a ga g') : Th w a g' b gb c gc L M L x' := by
  have h1 := h.one hta hs
  have hca : c ≠ a := by
    have := h.ta.lt.1
    omega
  have hcb : b ≠ c := by
    have := h.tb.lt.1
    omega
  have hac : Tw w c gc a g' L L x' := ⟨htc, hta, hca, hsep, h1.below, Nat.le_trans h.below.size hc, h1.a0, fun z e => Nat.le_trans h.below.size (hgc z e), h1.ga0⟩
  refine ⟨h1, hac.symm, ⟨h1.tb, htc, hcb, ?_, h1.below, h1.b0, hac.a0, h1.gb0, hac.ga0⟩⟩
  cases hgb : gb with
  | none => exact .inl rfl
  | some z =>
    refine .inr fun e => ?_
    have := h.tb.lt.2 z hgb
    have := hgc z e.symm
    omega
end

/-- What holds at each round's head of the second loop. -/
def CopAt (w : World) (a : Nat) (ga : Option Nat) (b : Nat) (gb : Option Nat) (c : Nat) (gc : Option Nat) (L : List Int) (x : World) : Prop := ∃ M, Th w a ga b gb c gc L L M x ∧ L.sum ≤ M.sum

set_option maxRecDepth 100000 in
set_option maxHeartbeats 4000000 in
theorem law_tcopies (A A' : Option Addr) (n n' c c' : Nat) (l l' : List (Int × Int)) (w : World) (hr : RdS w w.heap.size 2 A n c (pairsV l)) (hr' : RdS w w.heap.size 2 A' n' c' (pairsV l')) (hn : n ≤ maxLen) (hn' : n' ≤ maxLen) :
    Calls Try.prog 6 #[.slice A n c, .slice A' n' c'] w fun e w' => e = .returned (.bool true) ∧ Below w.heap.size w w' := by
  have H0 := Lib.hid ta_shown
  have HN := Lib.hid (ta_new 9)
  have HC := Lib.hid (fun b g L W h => ta_clone b g L W h)
  have HAll := Lib.hid (fun b g L W h => ta_all b g L W h)
  have HSum := Lib.hid (fun b g L W h => ta_sum b g L W h)
  have HR := Lib.hid hr
  have HR' := Lib.hid hr'
  have hl : l.length = n := by
    have := hr.len
    rw [pairsV_length] at this
    omega
  have hl' : l'.length = n' := by
    have := hr'.len
    rw [pairsV_length] at this
    omega
  have HL := Lib.hid hl
  have HL' := Lib.hid hl'
  unfold maxLen at hn hn'
  clear hr hl hr' hl'
  have tok1 : True := trivial
  go_enter Try.func6, Try.ntmps6
  go_wp2_with (first
    | (go_at_call 12; refine (H0.out _).mono ?_; rintro e w1 ⟨rfl, hb1⟩; have HB1 := Lib.hid hb1; clear hb1)
    | (go_at_call 13; have _t := tok1; refine (HN.out _).mono ?_; rintro e w2 ⟨a, rfl, ha, ht, hb2⟩; have HB2 := Lib.hid hb2; have HTa := Lib.hid ht; clear hb2 ht tok1)
    | (go_at_call 13; refine (HN.out _).mono ?_; rintro e w3 ⟨b, rfl, hb, ht, hb3⟩; have HB3 := Lib.hid hb3; have HTb := Lib.hid ht; clear hb3 ht))
  have HP : RowKit.Hid (∃ L, Tw w a none b none L L w3) := by
    have h1 := HB1.out
    have h2 := HB2.out
    have h3 := HB3.out
    have s1 := h1.size
    have s2 := h2.size
    have hla := HTa.out.lt.1
    exact ⟨_, HTa.out.below h3, HTb.out, by omega, .inl rfl, h1.trans ((h2.mono s1).trans (h3.mono (Nat.le_trans s1 s2))), Nat.le_trans s1 ha, by omega, fun g e => (by cases e), fun g e => (by cases e)⟩
  clear HB1 HB2 HB3 HTa HTb ha hb
  go_loopw [8] (fun i wr => ∃ (k : Nat) (ga gb : Option Nat), k ≤ n ∧ i = .int .i64 k ∧ ∃ L, Tw w a ga b gb L L wr) (fun i _ => n - (intOf i).toNat)
  case atStart => exact ⟨0, none, none, Nat.zero_le _, rfl, HP.out⟩
  case round =>
    clear HP
    obtain ⟨k, ga, gb, hk, rfl, hp⟩ := hrel
    have HP := Lib.hid hp
    clear hp
    by_cases hlt : k < n
    rotate_left
    · have hlt' : ¬ (k : Int) < n := by omega
      obtain ⟨L, hP⟩ := HP.out
      have P0 := Lib.hid hP
      clear hP HP
      go_wp2_with fail
      refine (HC.out _ _ _ _ (by exact P0.out.ta)).mono ?_
      rintro e w4 ⟨cc, gc, g4, rfl, hcc, hgc, hsep, htc, hta, hs4⟩
      have P1 := Lib.hid (Th.cloned P0.out hcc hgc hsep htc hta hs4)
      clear hcc hgc hsep htc hta hs4 P0
      have HP2 : RowKit.Hid (CopAt w a g4 b gb cc gc L w4) := ⟨_, P1.out, Int.le_refl _⟩
      clear P1
      go_wp2
      go_loopw [10] (fun i wr => ∃ (k : Nat) (gc : Option Nat), k ≤ n' ∧ i = .int .i64 k ∧ CopAt w a g4 b gb cc gc L wr) (fun i _ => n' - (intOf i).toNat)
      case atStart => exact ⟨0, gc, Nat.zero_le _, rfl, HP2.out⟩
      case round =>
        clear HP2
        obtain ⟨k2, gc, hk2, rfl, hp⟩ := hrel
        have HP := Lib.hid hp
        clear hp
        by_cases hlt2 : k2 < n'
        rotate_left
        · have hlt2' : ¬ (k2 : Int) < n' := by omega
          obtain ⟨M, hP, hM⟩ := HP.out
          have P0 := Lib.hid hP
          have HI := Lib.hid (fun h1 h2 W r1 r2 => ints_refl h1 h2 L hP.ab.ta.len W r1 r2)
          obtain ⟨s, gs⟩ : ∃ v, L.sum = v := ⟨_, rfl⟩
          obtain ⟨t, gt⟩ : ∃ v, M.sum = v := ⟨_, rfl⟩
          rw [gs, gt] at hM
          have GS := Lib.hid gs
          have GT := Lib.hid gt
          clear hP HP gs gt
          have tokA : True := trivial
          have tokS : True := trivial
          go_wp2_with (first
            | (go_at_call 21; have _t := tokA; refine (HAll.out _ _ _ _ (by exact P0.out.ab.ta)).mono ?_; rintro e w5 ⟨h1, rfl, hh1, hr1, g5, ht5, hs5⟩; have P1 := Lib.hid (P0.out.one ht5 hs5); have R1 := Lib.hid hr1; clear hr1 ht5 hs5 tokA)
            | (go_at_call 21; refine (HAll.out _ _ _ _ (by exact P1.out.ab.tb)).mono ?_; rintro e w6 ⟨h2, rfl, hh2, hr2, g6, ht6, hs6⟩; have P2 := Lib.hid ((P1.out.rot.one ht6 hs6).rot.rot); have R2 := Lib.hid hr2; have R3 := Lib.hid (hs6.k.whole R1.out (P1.out.ab.tb.own R1.out (by decide) (by decide))); clear hr2 ht6 hs6)
            | (go_at_call 20; refine (HI.out _ _ _ (by exact R3.out) (by exact R2.out)).mono ?_; rintro e w7 ⟨rfl, hb7⟩; have P3 := Lib.hid (P2.out.up hb7); clear hb7)
            | (go_at_call 22; have _t := tokS; refine (HSum.out _ _ _ _ (by exact P3.out.bc.tb)).mono ?_; rintro e w8 ⟨he, g8, ht8, hs8⟩; rw [GT.out] at he; subst he; have P4 := Lib.hid ((P3.out.rot.rot.one ht8 hs8).rot); clear ht8 hs8 tokS)
            | (go_at_call 22; refine (HSum.out _ _ _ _ (by exact P4.out.ab.ta)).mono ?_; rintro e w9 ⟨he, g9, ht9, hs9⟩; rw [GS.out] at he; subst he; have P5 := Lib.hid (P4.out.one ht9 hs9); clear ht9 hs9))
          go_ret
          exact ⟨rfl, P5.out.ab.below⟩
        by_cases h402 : k2 < 40
        rotate_left
        · have h402' : ¬ (k2 : Int) < 40 := by omega
          obtain ⟨M, hP, hM⟩ := HP.out
          have P0 := Lib.hid hP
          have HI := Lib.hid (fun h1 h2 W r1 r2 => ints_refl h1 h2 L hP.ab.ta.len W r1 r2)
          obtain ⟨s, gs⟩ : ∃ v, L.sum = v := ⟨_, rfl⟩
          obtain ⟨t, gt⟩ : ∃ v, M.sum = v := ⟨_, rfl⟩
          rw [gs, gt] at hM
          have GS := Lib.hid gs
          have GT := Lib.hid gt
          clear hP HP gs gt
          have tokA : True := trivial
          have tokS : True := trivial
          go_wp2_with (first
            | (go_at_call 21; have _t := tokA; refine (HAll.out _ _ _ _ (by exact P0.out.ab.ta)).mono ?_; rintro e w5 ⟨h1, rfl, hh1, hr1, g5, ht5, hs5⟩; have P1 := Lib.hid (P0.out.one ht5 hs5); have R1 := Lib.hid hr1; clear hr1 ht5 hs5 tokA)
            | (go_at_call 21; refine (HAll.out _ _ _ _ (by exact P1.out.ab.tb)).mono ?_; rintro e w6 ⟨h2, rfl, hh2, hr2, g6, ht6, hs6⟩; have P2 := Lib.hid ((P1.out.rot.one ht6 hs6).rot.rot); have R2 := Lib.hid hr2; have R3 := Lib.hid (hs6.k.whole R1.out (P1.out.ab.tb.own R1.out (by decide) (by decide))); clear hr2 ht6 hs6)
            | (go_at_call 20; refine (HI.out _ _ _ (by exact R3.out) (by exact R2.out)).mono ?_; rintro e w7 ⟨rfl, hb7⟩; have P3 := Lib.hid (P2.out.up hb7); clear hb7)
            | (go_at_call 22; have _t := tokS; refine (HSum.out _ _ _ _ (by exact P3.out.bc.tb)).mono ?_; rintro e w8 ⟨he, g8, ht8, hs8⟩; rw [GT.out] at he; subst he; have P4 := Lib.hid ((P3.out.rot.rot.one ht8 hs8).rot); clear ht8 hs8 tokS)
            | (go_at_call 22; refine (HSum.out _ _ _ _ (by exact P4.out.ab.ta)).mono ?_; rintro e w9 ⟨he, g9, ht9, hs9⟩; rw [GS.out] at he; subst he; have P5 := Lib.hid (P4.out.one ht9 hs9); clear ht9 hs9))
          go_ret
          exact ⟨rfl, P5.out.ab.below⟩
        · have h402' : (k2 : Int) < 40 := by omega
          obtain ⟨ab, ao, rfl, hab, hac⟩ := HR'.out.pairs (by omega)
          have HA := Lib.hid (hac k2 (by rw [HL'.out]; exact hlt2))
          clear hac
          obtain ⟨p, gp⟩ : ∃ v, l'.getD k2 (0, 0) = v := ⟨_, rfl⟩
          rw [gp] at HA
          clear gp
          obtain ⟨M, hP, hM⟩ := HP.out
          have T0 := hP.up ((Below.refl _ wr).drew)
          obtain ⟨base, gbase⟩ : ∃ x, wr.drew.heap.size = x := ⟨_, rfl⟩
          have GB := Lib.hid gbase
          have HM := Lib.hid hM
          clear gbase hP hM
          have c1 : ∀ w', Kept (TwS base b gb cc gc) wr.drew w' → w'.cell? ⟨ab, ao + k2 * 2, none⟩ = some (.int .i64 p.1) := fun w' h => h.cell ((T0.bc.below.cell hab).trans HA.out.1) (T0.bc.far hab (by rw [← GB.out]; exact T0.bc.below.size))
          have c2 : ∀ w', Kept (TwS base b gb cc gc) wr.drew w' → w'.cell? ⟨ab, ao + k2 * 2 + 1, none⟩ = some (.int .i64 p.2) := fun w' h => h.cell ((T0.bc.below.cell hab).trans HA.out.2) (T0.bc.far hab (by rw [← GB.out]; exact T0.bc.below.size))
          have TT := Lib.hid T0
          clear T0
          go_upto_region 17 with fail
          refine wp_region_reg (TwS base b gb cc gc) (by kernel_rfl) ?_
          apply wpR_next 0 (some 72)
          · simp only [List.getElem?_toArray, List.getElem?_cons_succ, List.getElem?_cons_zero]; exact rfl
          · rfl
          · kernel_rfl
          · kernel_rfl
          · kernel_rfl
          · exact fun _ _ _ _ h => h
          apply Exists.intro
          apply And.intro
          · apply yr_run; rfl; intro w' hw'; go_simp; (try with_reducible rfl)
          simp only [Act.put, List.setIfInBounds_toArray, List.set_cons_zero, List.set_cons_succ]
          apply wpR_next 1 (some 73)
          · simp only [List.getElem?_toArray, List.getElem?_cons_succ, List.getElem?_cons_zero]; exact rfl
          · rfl
          · kernel_rfl
          · kernel_rfl
          · kernel_rfl
          · exact fun _ _ _ _ h => h
          apply Exists.intro
          apply And.intro
          · apply yr_run; rfl; intro w' hw'; go_simp; (try with_reducible rfl)
          simp only [Act.put, List.setIfInBounds_toArray, List.set_cons_zero, List.set_cons_succ]
          apply wpR_next 2 (some 74)
          · simp only [List.getElem?_toArray, List.getElem?_cons_succ, List.getElem?_cons_zero]; exact rfl
          · rfl
          · kernel_rfl
          · kernel_rfl
          · kernel_rfl
          · exact fun _ _ _ _ h => h
          apply Exists.intro
          apply And.intro
          · apply yr_run; rfl; intro w' hw'; go_simp; (try with_reducible rfl)
          simp only [Act.put, List.setIfInBounds_toArray, List.set_cons_zero, List.set_cons_succ]
          apply wpR_next 3 (some 75)
          · simp only [List.getElem?_toArray, List.getElem?_cons_succ, List.getElem?_cons_zero]; exact rfl
          · rfl
          · kernel_rfl
          · kernel_rfl
          · kernel_rfl
          · exact fun _ _ _ _ h => h
          apply Exists.intro
          apply And.intro
          · apply yr_run; rfl; intro w' hw'; go_simp; (try with_reducible rfl)
          simp only [Act.put, List.setIfInBounds_toArray, List.set_cons_zero, List.set_cons_succ]
          apply wpR_next 4 (some 76)
          · simp only [List.getElem?_toArray, List.getElem?_cons_succ, List.getElem?_cons_zero]; exact rfl
          · rfl
          · kernel_rfl
          · kernel_rfl
          · kernel_rfl
          · exact fun _ _ _ _ h => h
          apply Exists.intro
          apply And.intro
          · apply yr_run; rfl; intro w' hw'; go_simp; (try with_reducible rfl)
          simp only [Act.put, List.setIfInBounds_toArray, List.set_cons_zero, List.set_cons_succ]
          apply wpR_next 5 (some 77)
          · simp only [List.getElem?_toArray, List.getElem?_cons_succ, List.getElem?_cons_zero]; exact rfl
          · rfl
          · kernel_rfl
          · kernel_rfl
          · kernel_rfl
          · exact fun _ _ _ _ h => h
          apply Exists.intro
          apply And.intro
          · apply yr_run; rfl; intro w' hw'; go_simp; (try with_reducible rfl)
          simp only [Act.put, List.setIfInBounds_toArray, List.set_cons_zero, List.set_cons_succ]
          apply wpR_next 6 (some 78)
          · simp only [List.getElem?_toArray, List.getElem?_cons_succ, List.getElem?_cons_zero]; exact rfl
          · rfl
          · kernel_rfl
          · kernel_rfl
          · kernel_rfl
          · exact fun _ _ _ _ h => h
          apply Exists.intro
          apply And.intro
          · apply yr_run; rfl; intro w' hw'; go_simp; (try with_reducible rfl)
          simp only [Act.put, List.setIfInBounds_toArray, List.set_cons_zero, List.set_cons_succ]
          apply wpR_next 7 (some 79)
          · simp only [List.getElem?_toArray, List.getElem?_cons_succ, List.getElem?_cons_zero]; exact rfl
          · rfl
          · kernel_rfl
          · kernel_rfl
          · kernel_rfl
          · exact fun _ _ _ _ h => h
          apply Exists.intro
          apply And.intro
          · apply yr_run; rfl; intro w' hw'; go_simp; (try with_reducible rfl)
          simp only [Act.put, List.setIfInBounds_toArray, List.set_cons_zero, List.set_cons_succ]
          apply wpR_next 8 (some 80)
          · simp only [List.getElem?_toArray, List.getElem?_cons_succ, List.getElem?_cons_zero]; exact rfl
          · rfl
          · kernel_rfl
          · kernel_rfl
          · kernel_rfl
          · exact fun _ _ _ _ h => h
          apply Exists.intro
          apply And.intro
          · apply yr_run; rfl; intro w' hw'; go_simp; (try with_reducible rfl)
          simp only [Act.put, List.setIfInBounds_toArray, List.set_cons_zero, List.set_cons_succ]
          apply wpR_next 9 (some 81)
          · simp only [List.getElem?_toArray, List.getElem?_cons_succ, List.getElem?_cons_zero]; exact rfl
          · rfl
          · kernel_rfl
          · kernel_rfl
          · kernel_rfl
          · exact fun _ _ _ _ h => h
          apply Exists.intro
          apply And.intro
          · apply yr_run; rfl; intro w' hw'; go_simp; (try with_reducible rfl)
          simp only [Act.put, List.setIfInBounds_toArray, List.set_cons_zero, List.set_cons_succ]
          apply wpR_next 10 (some 82)
          · simp only [List.getElem?_toArray, List.getElem?_cons_succ, List.getElem?_cons_zero]; exact rfl
          · rfl
          · kernel_rfl
          · kernel_rfl
          · kernel_rfl
          · exact fun _ _ _ _ h => h
          apply Exists.intro
          apply And.intro
          · apply yr_run; rfl; intro w' hw'; go_simp; (try with_reducible rfl)
          simp only [Act.put, List.setIfInBounds_toArray, List.set_cons_zero, List.set_cons_succ]
          apply wpR_call 11 (some 83)
          · simp only [List.getElem?_toArray, List.getElem?_cons_succ, List.getElem?_cons_zero]; exact rfl
          · rfl
          · kernel_rfl
          · rfl
          · intro w'; go_simp; first | done | exact ⟨rfl, rfl⟩ | with_reducible rfl
          intro w' hw'
          refine (ta_add cc gc _ p.1 p.2 w' (TT.out.bc.tb.below hw')).mono ?_
          rintro e w5 ⟨rfl, gc1, ht5, hs5⟩
          have P1 := Lib.hid (((TT.out.up hw').rot.rot.one ht5 hs5).rot)
          have k5 : Kept (TwS base b gb cc gc) w' w5 := hs5.k.wider (fun i _ h => Own.tw2 h)
          clear ht5 hs5
          refine ⟨_, rfl, k5, ?_⟩
          clear hw'
          simp only [Act.put, List.setIfInBounds_toArray, List.set_cons_zero, List.set_cons_succ]
          refine wpR_done (by kernel_rfl) ?_ _
          intro w' hw'
          have PE := Lib.hid (P1.out.up hw')
          clear hw'
          go_wp2
          go_roundw
          case rel => exact ⟨k2 + 1, gc1, by omega, by go_num, _, PE.out, Int.le_trans HM.out (add_sum_le _ _ _)⟩
          case measure => simp [intOf]; omega
    by_cases h40 : k < 40
    rotate_left
    · have h40' : ¬ (k : Int) < 40 := by omega
      obtain ⟨L, hP⟩ := HP.out
      have P0 := Lib.hid hP
      clear hP HP
      go_wp2_with fail
      refine (HC.out _ _ _ _ (by exact P0.out.ta)).mono ?_
      rintro e w4 ⟨cc, gc, g4, rfl, hcc, hgc, hsep, htc, hta, hs4⟩
      have P1 := Lib.hid (Th.cloned P0.out hcc hgc hsep htc hta hs4)
      clear hcc hgc hsep htc hta hs4 P0
      have HP2 : RowKit.Hid (CopAt w a g4 b gb cc gc L w4) := ⟨_, P1.out, Int.le_refl _⟩
      clear P1
      go_wp2
      go_loopw [10] (fun i wr => ∃ (k : Nat) (gc : Option Nat), k ≤ n' ∧ i = .int .i64 k ∧ CopAt w a g4 b gb cc gc L wr) (fun i _ => n' - (intOf i).toNat)
      case atStart => exact ⟨0, gc, Nat.zero_le _, rfl, HP2.out⟩
      case round =>
        clear HP2
        obtain ⟨k2, gc, hk2, rfl, hp⟩ := hrel
        have HP := Lib.hid hp
        clear hp
        by_cases hlt2 : k2 < n'
        rotate_left
        · have hlt2' : ¬ (k2 : Int) < n' := by omega
          obtain ⟨M, hP, hM⟩ := HP.out
          have P0 := Lib.hid hP
          have HI := Lib.hid (fun h1 h2 W r1 r2 => ints_refl h1 h2 L hP.ab.ta.len W r1 r2)
          obtain ⟨s, gs⟩ : ∃ v, L.sum = v := ⟨_, rfl⟩
          obtain ⟨t, gt⟩ : ∃ v, M.sum = v := ⟨_, rfl⟩
          rw [gs, gt] at hM
          have GS := Lib.hid gs
          have GT := Lib.hid gt
          clear hP HP gs gt
          have tokA : True := trivial
          have tokS : True := trivial
          go_wp2_with (first
            | (go_at_call 21; have _t := tokA; refine (HAll.out _ _ _ _ (by exact P0.out.ab.ta)).mono ?_; rintro e w5 ⟨h1, rfl, hh1, hr1, g5, ht5, hs5⟩; have P1 := Lib.hid (P0.out.one ht5 hs5); have R1 := Lib.hid hr1; clear hr1 ht5 hs5 tokA)
            | (go_at_call 21; refine (HAll.out _ _ _ _ (by exact P1.out.ab.tb)).mono ?_; rintro e w6 ⟨h2, rfl, hh2, hr2, g6, ht6, hs6⟩; have P2 := Lib.hid ((P1.out.rot.one ht6 hs6).rot.rot); have R2 := Lib.hid hr2; have R3 := Lib.hid (hs6.k.whole R1.out (P1.out.ab.tb.own R1.out (by decide) (by decide))); clear hr2 ht6 hs6)
            | (go_at_call 20; refine (HI.out _ _ _ (by exact R3.out) (by exact R2.out)).mono ?_; rintro e w7 ⟨rfl, hb7⟩; have P3 := Lib.hid (P2.out.up hb7); clear hb7)
            | (go_at_call 22; have _t := tokS; refine (HSum.out _ _ _ _ (by exact P3.out.bc.tb)).mono ?_; rintro e w8 ⟨he, g8, ht8, hs8⟩; rw [GT.out] at he; subst he; have P4 := Lib.hid ((P3.out.rot.rot.one ht8 hs8).rot); clear ht8 hs8 tokS)
            | (go_at_call 22; refine (HSum.out _ _ _ _ (by exact P4.out.ab.ta)).mono ?_; rintro e w9 ⟨he, g9, ht9, hs9⟩; rw [GS.out] at he; subst he; have P5 := Lib.hid (P4.out.one ht9 hs9); clear ht9 hs9))
          go_ret
          exact ⟨rfl, P5.out.ab.below⟩
        by_cases h402 : k2 < 40
        rotate_left
        · have h402' : ¬ (k2 : Int) < 40 := by omega
          obtain ⟨M, hP, hM⟩ := HP.out
          have P0 := Lib.hid hP
          have HI := Lib.hid (fun h1 h2 W r1 r2 => ints_refl h1 h2 L hP.ab.ta.len W r1 r2)
          obtain ⟨s, gs⟩ : ∃ v, L.sum = v := ⟨_, rfl⟩
          obtain ⟨t, gt⟩ : ∃ v, M.sum = v := ⟨_, rfl⟩
          rw [gs, gt] at hM
          have GS := Lib.hid gs
          have GT := Lib.hid gt
          clear hP HP gs gt
          have tokA : True := trivial
          have tokS : True := trivial
          go_wp2_with (first
            | (go_at_call 21; have _t := tokA; refine (HAll.out _ _ _ _ (by exact P0.out.ab.ta)).mono ?_; rintro e w5 ⟨h1, rfl, hh1, hr1, g5, ht5, hs5⟩; have P1 := Lib.hid (P0.out.one ht5 hs5); have R1 := Lib.hid hr1; clear hr1 ht5 hs5 tokA)
            | (go_at_call 21; refine (HAll.out _ _ _ _ (by exact P1.out.ab.tb)).mono ?_; rintro e w6 ⟨h2, rfl, hh2, hr2, g6, ht6, hs6⟩; have P2 := Lib.hid ((P1.out.rot.one ht6 hs6).rot.rot); have R2 := Lib.hid hr2; have R3 := Lib.hid (hs6.k.whole R1.out (P1.out.ab.tb.own R1.out (by decide) (by decide))); clear hr2 ht6 hs6)
            | (go_at_call 20; refine (HI.out _ _ _ (by exact R3.out) (by exact R2.out)).mono ?_; rintro e w7 ⟨rfl, hb7⟩; have P3 := Lib.hid (P2.out.up hb7); clear hb7)
            | (go_at_call 22; have _t := tokS; refine (HSum.out _ _ _ _ (by exact P3.out.bc.tb)).mono ?_; rintro e w8 ⟨he, g8, ht8, hs8⟩; rw [GT.out] at he; subst he; have P4 := Lib.hid ((P3.out.rot.rot.one ht8 hs8).rot); clear ht8 hs8 tokS)
            | (go_at_call 22; refine (HSum.out _ _ _ _ (by exact P4.out.ab.ta)).mono ?_; rintro e w9 ⟨he, g9, ht9, hs9⟩; rw [GS.out] at he; subst he; have P5 := Lib.hid (P4.out.one ht9 hs9); clear ht9 hs9))
          go_ret
          exact ⟨rfl, P5.out.ab.below⟩
        · have h402' : (k2 : Int) < 40 := by omega
          obtain ⟨ab, ao, rfl, hab, hac⟩ := HR'.out.pairs (by omega)
          have HA := Lib.hid (hac k2 (by rw [HL'.out]; exact hlt2))
          clear hac
          obtain ⟨p, gp⟩ : ∃ v, l'.getD k2 (0, 0) = v := ⟨_, rfl⟩
          rw [gp] at HA
          clear gp
          obtain ⟨M, hP, hM⟩ := HP.out
          have T0 := hP.up ((Below.refl _ wr).drew)
          obtain ⟨base, gbase⟩ : ∃ x, wr.drew.heap.size = x := ⟨_, rfl⟩
          have GB := Lib.hid gbase
          have HM := Lib.hid hM
          clear gbase hP hM
          have c1 : ∀ w', Kept (TwS base b gb cc gc) wr.drew w' → w'.cell? ⟨ab, ao + k2 * 2, none⟩ = some (.int .i64 p.1) := fun w' h => h.cell ((T0.bc.below.cell hab).trans HA.out.1) (T0.bc.far hab (by rw [← GB.out]; exact T0.bc.below.size))
          have c2 : ∀ w', Kept (TwS base b gb cc gc) wr.drew w' → w'.cell? ⟨ab, ao + k2 * 2 + 1, none⟩ = some (.int .i64 p.2) := fun w' h => h.cell ((T0.bc.below.cell hab).trans HA.out.2) (T0.bc.far hab (by rw [← GB.out]; exact T0.bc.below.size))
          have TT := Lib.hid T0
          clear T0
          go_upto_region 17 with fail
          refine wp_region_reg (TwS base b gb cc gc) (by kernel_rfl) ?_
          apply wpR_next 0 (some 72)
          · simp only [List.getElem?_toArray, List.getElem?_cons_succ, List.getElem?_cons_zero]; exact rfl
          · rfl
          · kernel_rfl
          · kernel_rfl
          · kernel_rfl
          · exact fun _ _ _ _ h => h
          apply Exists.intro
          apply And.intro
          · apply yr_run; rfl; intro w' hw'; go_simp; (try with_reducible rfl)
          simp only [Act.put, List.setIfInBounds_toArray, List.set_cons_zero, List.set_cons_succ]
          apply wpR_next 1 (some 73)
          · simp only [List.getElem?_toArray, List.getElem?_cons_succ, List.getElem?_cons_zero]; exact rfl
          · rfl
          · kernel_rfl
          · kernel_rfl
          · kernel_rfl
          · exact fun _ _ _ _ h => h
          apply Exists.intro
          apply And.intro
          · apply yr_run; rfl; intro w' hw'; go_simp; (try with_reducible rfl)
          simp only [Act.put, List.setIfInBounds_toArray, List.set_cons_zero, List.set_cons_succ]
          apply wpR_next 2 (some 74)
          · simp only [List.getElem?_toArray, List.getElem?_cons_succ, List.getElem?_cons_zero]; exact rfl
          · rfl
          · kernel_rfl
          · kernel_rfl
          · kernel_rfl
          · exact fun _ _ _ _ h => h
          apply Exists.intro
          apply And.intro
          · apply yr_run; rfl; intro w' hw'; go_simp; (try with_reducible rfl)
          simp only [Act.put, List.setIfInBounds_toArray, List.set_cons_zero, List.set_cons_succ]
          apply wpR_next 3 (some 75)
          · simp only [List.getElem?_toArray, List.getElem?_cons_succ, List.getElem?_cons_zero]; exact rfl
          · rfl
          · kernel_rfl
          · kernel_rfl
          · kernel_rfl
          · exact fun _ _ _ _ h => h
          apply Exists.intro
          apply And.intro
          · apply yr_run; rfl; intro w' hw'; go_simp; (try with_reducible rfl)
          simp only [Act.put, List.setIfInBounds_toArray, List.set_cons_zero, List.set_cons_succ]
          apply wpR_next 4 (some 76)
          · simp only [List.getElem?_toArray, List.getElem?_cons_succ, List.getElem?_cons_zero]; exact rfl
          · rfl
          · kernel_rfl
          · kernel_rfl
          · kernel_rfl
          · exact fun _ _ _ _ h => h
          apply Exists.intro
          apply And.intro
          · apply yr_run; rfl; intro w' hw'; go_simp; (try with_reducible rfl)
          simp only [Act.put, List.setIfInBounds_toArray, List.set_cons_zero, List.set_cons_succ]
          apply wpR_next 5 (some 77)
          · simp only [List.getElem?_toArray, List.getElem?_cons_succ, List.getElem?_cons_zero]; exact rfl
          · rfl
          · kernel_rfl
          · kernel_rfl
          · kernel_rfl
          · exact fun _ _ _ _ h => h
          apply Exists.intro
          apply And.intro
          · apply yr_run; rfl; intro w' hw'; go_simp; (try with_reducible rfl)
          simp only [Act.put, List.setIfInBounds_toArray, List.set_cons_zero, List.set_cons_succ]
          apply wpR_next 6 (some 78)
          · simp only [List.getElem?_toArray, List.getElem?_cons_succ, List.getElem?_cons_zero]; exact rfl
          · rfl
          · kernel_rfl
          · kernel_rfl
          · kernel_rfl
          · exact fun _ _ _ _ h => h
          apply Exists.intro
          apply And.intro
          · apply yr_run; rfl; intro w' hw'; go_simp; (try with_reducible rfl)
          simp only [Act.put, List.setIfInBounds_toArray, List.set_cons_zero, List.set_cons_succ]
          apply wpR_next 7 (some 79)
          · simp only [List.getElem?_toArray, List.getElem?_cons_succ, List.getElem?_cons_zero]; exact rfl
          · rfl
          · kernel_rfl
          · kernel_rfl
          · kernel_rfl
          · exact fun _ _ _ _ h => h
          apply Exists.intro
          apply And.intro
          · apply yr_run; rfl; intro w' hw'; go_simp; (try with_reducible rfl)
          simp only [Act.put, List.setIfInBounds_toArray, List.set_cons_zero, List.set_cons_succ]
          apply wpR_next 8 (some 80)
          · simp only [List.getElem?_toArray, List.getElem?_cons_succ, List.getElem?_cons_zero]; exact rfl
          · rfl
          · kernel_rfl
          · kernel_rfl
          · kernel_rfl
          · exact fun _ _ _ _ h => h
          apply Exists.intro
          apply And.intro
          · apply yr_run; rfl; intro w' hw'; go_simp; (try with_reducible rfl)
          simp only [Act.put, List.setIfInBounds_toArray, List.set_cons_zero, List.set_cons_succ]
          apply wpR_next 9 (some 81)
          · simp only [List.getElem?_toArray, List.getElem?_cons_succ, List.getElem?_cons_zero]; exact rfl
          · rfl
          · kernel_rfl
          · kernel_rfl
          · kernel_rfl
          · exact fun _ _ _ _ h => h
          apply Exists.intro
          apply And.intro
          · apply yr_run; rfl; intro w' hw'; go_simp; (try with_reducible rfl)
          simp only [Act.put, List.setIfInBounds_toArray, List.set_cons_zero, List.set_cons_succ]
          apply wpR_next 10 (some 82)
          · simp only [List.getElem?_toArray, List.getElem?_cons_succ, List.getElem?_cons_zero]; exact rfl
          · rfl
          · kernel_rfl
          · kernel_rfl
          · kernel_rfl
          · exact fun _ _ _ _ h => h
          apply Exists.intro
          apply And.intro
          · apply yr_run; rfl; intro w' hw'; go_simp; (try with_reducible rfl)
          simp only [Act.put, List.setIfInBounds_toArray, List.set_cons_zero, List.set_cons_succ]
          apply wpR_call 11 (some 83)
          · simp only [List.getElem?_toArray, List.getElem?_cons_succ, List.getElem?_cons_zero]; exact rfl
          · rfl
          · kernel_rfl
          · rfl
          · intro w'; go_simp; first | done | exact ⟨rfl, rfl⟩ | with_reducible rfl
          intro w' hw'
          refine (ta_add cc gc _ p.1 p.2 w' (TT.out.bc.tb.below hw')).mono ?_
          rintro e w5 ⟨rfl, gc1, ht5, hs5⟩
          have P1 := Lib.hid (((TT.out.up hw').rot.rot.one ht5 hs5).rot)
          have k5 : Kept (TwS base b gb cc gc) w' w5 := hs5.k.wider (fun i _ h => Own.tw2 h)
          clear ht5 hs5
          refine ⟨_, rfl, k5, ?_⟩
          clear hw'
          simp only [Act.put, List.setIfInBounds_toArray, List.set_cons_zero, List.set_cons_succ]
          refine wpR_done (by kernel_rfl) ?_ _
          intro w' hw'
          have PE := Lib.hid (P1.out.up hw')
          clear hw'
          go_wp2
          go_roundw
          case rel => exact ⟨k2 + 1, gc1, by omega, by go_num, _, PE.out, Int.le_trans HM.out (add_sum_le _ _ _)⟩
          case measure => simp [intOf]; omega
    · have h40' : (k : Int) < 40 := by omega
      obtain ⟨ab, ao, rfl, hab, hac⟩ := HR.out.pairs (by omega)
      have HA := Lib.hid (hac k (by rw [HL.out]; exact hlt))
      clear hac
      obtain ⟨p, gp⟩ : ∃ v, l.getD k (0, 0) = v := ⟨_, rfl⟩
      rw [gp] at HA
      clear gp
      obtain ⟨L, hP⟩ := HP.out
      have T0 := hP.up ((Below.refl _ wr).drew)
      obtain ⟨base, gbase⟩ : ∃ x, wr.drew.heap.size = x := ⟨_, rfl⟩
      have GB := Lib.hid gbase
      clear gbase hP
      have c1 : ∀ w', Kept (TwS base a ga b gb) wr.drew w' → w'.cell? ⟨ab, ao + k * 2, none⟩ = some (.int .i64 p.1) := fun w' h => h.cell ((T0.below.cell hab).trans HA.out.1) (T0.far hab (by rw [← GB.out]; exact T0.below.size))
      have c2 : ∀ w', Kept (TwS base a ga b gb) wr.drew w' → w'.cell? ⟨ab, ao + k * 2 + 1, none⟩ = some (.int .i64 p.2) := fun w' h => h.cell ((T0.below.cell hab).trans HA.out.2) (T0.far hab (by rw [← GB.out]; exact T0.below.size))
      have TT := Lib.hid T0
      clear T0
      go_upto_region 9 with fail
      refine wp_region_reg (TwS base a ga b gb) (by kernel_rfl) ?_
      apply wpR_next 0 (some 34)
      · simp only [List.getElem?_toArray, List.getElem?_cons_succ, List.getElem?_cons_zero]; exact rfl
      · rfl
      · kernel_rfl
      · kernel_rfl
      · kernel_rfl
      · exact fun _ _ _ _ h => h
      apply Exists.intro
      apply And.intro
      · apply yr_run; rfl; intro w' hw'; go_simp; (try with_reducible rfl)
      simp only [Act.put, List.setIfInBounds_toArray, List.set_cons_zero, List.set_cons_succ]
      apply wpR_next 1 (some 35)
      · simp only [List.getElem?_toArray, List.getElem?_cons_succ, List.getElem?_cons_zero]; exact rfl
      · rfl
      · kernel_rfl
      · kernel_rfl
      · kernel_rfl
      · exact fun _ _ _ _ h => h
      apply Exists.intro
      apply And.intro
      · apply yr_run; rfl; intro w' hw'; go_simp; (try with_reducible rfl)
      simp only [Act.put, List.setIfInBounds_toArray, List.set_cons_zero, List.set_cons_succ]
      apply wpR_next 2 (some 36)
      · simp only [List.getElem?_toArray, List.getElem?_cons_succ, List.getElem?_cons_zero]; exact rfl
      · rfl
      · kernel_rfl
      · kernel_rfl
      · kernel_rfl
      · exact fun _ _ _ _ h => h
      apply Exists.intro
      apply And.intro
      · apply yr_run; rfl; intro w' hw'; go_simp; (try with_reducible rfl)
      simp only [Act.put, List.setIfInBounds_toArray, List.set_cons_zero, List.set_cons_succ]
      apply wpR_next 3 (some 37)
      · simp only [List.getElem?_toArray, List.getElem?_cons_succ, List.getElem?_cons_zero]; exact rfl
      · rfl
      · kernel_rfl
      · kernel_rfl
      · kernel_rfl
      · exact fun _ _ _ _ h => h
      apply Exists.intro
      apply And.intro
      · apply yr_run; rfl; intro w' hw'; go_simp; (try with_reducible rfl)
      simp only [Act.put, List.setIfInBounds_toArray, List.set_cons_zero, List.set_cons_succ]
      apply wpR_next 4 (some 38)
      · simp only [List.getElem?_toArray, List.getElem?_cons_succ, List.getElem?_cons_zero]; exact rfl
      · rfl
      · kernel_rfl
      · kernel_rfl
      · kernel_rfl
      · exact fun _ _ _ _ h => h
      apply Exists.intro
      apply And.intro
      · apply yr_run; rfl; intro w' hw'; go_simp; (try with_reducible rfl)
      simp only [Act.put, List.setIfInBounds_toArray, List.set_cons_zero, List.set_cons_succ]
      apply wpR_next 5 (some 39)
      · simp only [List.getElem?_toArray, List.getElem?_cons_succ, List.getElem?_cons_zero]; exact rfl
      · rfl
      · kernel_rfl
      · kernel_rfl
      · kernel_rfl
      · exact fun _ _ _ _ h => h
      apply Exists.intro
      apply And.intro
      · apply yr_run; rfl; intro w' hw'; go_simp; (try with_reducible rfl)
      simp only [Act.put, List.setIfInBounds_toArray, List.set_cons_zero, List.set_cons_succ]
      apply wpR_next 6 (some 40)
      · simp only [List.getElem?_toArray, List.getElem?_cons_succ, List.getElem?_cons_zero]; exact rfl
      · rfl
      · kernel_rfl
      · kernel_rfl
      · kernel_rfl
      · exact fun _ _ _ _ h => h
      apply Exists.intro
      apply And.intro
      · apply yr_run; rfl; intro w' hw'; go_simp; (try with_reducible rfl)
      simp only [Act.put, List.setIfInBounds_toArray, List.set_cons_zero, List.set_cons_succ]
      apply wpR_next 7 (some 41)
      · simp only [List.getElem?_toArray, List.getElem?_cons_succ, List.getElem?_cons_zero]; exact rfl
      · rfl
      · kernel_rfl
      · kernel_rfl
      · kernel_rfl
      · exact fun _ _ _ _ h => h
      apply Exists.intro
      apply And.intro
      · apply yr_run; rfl; intro w' hw'; go_simp; (try with_reducible rfl)
      simp only [Act.put, List.setIfInBounds_toArray, List.set_cons_zero, List.set_cons_succ]
      apply wpR_next 8 (some 42)
      · simp only [List.getElem?_toArray, List.getElem?_cons_succ, List.getElem?_cons_zero]; exact rfl
      · rfl
      · kernel_rfl
      · kernel_rfl
      · kernel_rfl
      · exact fun _ _ _ _ h => h
      apply Exists.intro
      apply And.intro
      · apply yr_run; rfl; intro w' hw'; go_simp; (try with_reducible rfl)
      simp only [Act.put, List.setIfInBounds_toArray, List.set_cons_zero, List.set_cons_succ]
      apply wpR_next 9 (some 43)
      · simp only [List.getElem?_toArray, List.getElem?_cons_succ, List.getElem?_cons_zero]; exact rfl
      · rfl
      · kernel_rfl
      · kernel_rfl
      · kernel_rfl
      · exact fun _ _ _ _ h => h
      apply Exists.intro
      apply And.intro
      · apply yr_run; rfl; intro w' hw'; go_simp; (try with_reducible rfl)
      simp only [Act.put, List.setIfInBounds_toArray, List.set_cons_zero, List.set_cons_succ]
      apply wpR_next 10 (some 44)
      · simp only [List.getElem?_toArray, List.getElem?_cons_succ, List.getElem?_cons_zero]; exact rfl
      · rfl
      · kernel_rfl
      · kernel_rfl
      · kernel_rfl
      · exact fun _ _ _ _ h => h
      apply Exists.intro
      apply And.intro
      · apply yr_run; rfl; intro w' hw'; go_simp; (try with_reducible rfl)
      simp only [Act.put, List.setIfInBounds_toArray, List.set_cons_zero, List.set_cons_succ]
      apply wpR_call 11 (some 45)
      · simp only [List.getElem?_toArray, List.getElem?_cons_succ, List.getElem?_cons_zero]; exact rfl
      · rfl
      · kernel_rfl
      · rfl
      · intro w'; go_simp; first | done | exact ⟨rfl, rfl⟩ | with_reducible rfl
      intro w' hw'
      refine (ta_add a ga _ p.1 p.2 w' (TT.out.ta.below hw')).mono ?_
      rintro e w5 ⟨rfl, ga1, ht5, hs5⟩
      have P1 := Lib.hid ((TT.out.up hw').one ht5 hs5)
      have k5 : Kept (TwS base a ga b gb) w' w5 := hs5.k.wider (fun i _ h => Own.tw1 h)
      clear ht5 hs5
      refine ⟨_, rfl, k5, ?_⟩
      clear hw'
      simp only [Act.put, List.setIfInBounds_toArray, List.set_cons_zero, List.set_cons_succ]
      refine wpR_done (by kernel_rfl) ?_ _
      intro w' hw'
      have P2 := Lib.hid (P1.out.up hw')
      have T0 := P2.out.up ((Below.refl _ w').drew)
      obtain ⟨bas2, gbase⟩ : ∃ x, w'.drew.heap.size = x := ⟨_, rfl⟩
      have GB2 := Lib.hid gbase
      clear gbase
      have e1 : ∀ x', Kept (TwS bas2 a ga1 b gb) w'.drew x' → x'.cell? ⟨ab, ao + k * 2, none⟩ = some (.int .i64 p.1) := fun x' h => h.cell ((T0.below.cell hab).trans HA.out.1) (T0.far hab (by rw [← GB2.out]; exact T0.below.size))
      have e2 : ∀ x', Kept (TwS bas2 a ga1 b gb) w'.drew x' → x'.cell? ⟨ab, ao + k * 2 + 1, none⟩ = some (.int .i64 p.2) := fun x' h => h.cell ((T0.below.cell hab).trans HA.out.2) (T0.far hab (by rw [← GB2.out]; exact T0.below.size))
      have TT2 := Lib.hid T0
      clear T0 hw'
      go_upto_region 10 with fail
      refine wp_region_reg (TwS bas2 a ga1 b gb) (by kernel_rfl) ?_
      apply wpR_next 0 (some 46)
      · simp only [List.getElem?_toArray, List.getElem?_cons_succ, List.getElem?_cons_zero]; exact rfl
      · rfl
      · kernel_rfl
      · kernel_rfl
      · kernel_rfl
      · exact fun _ _ _ _ h => h
      apply Exists.intro
      apply And.intro
      · apply yr_run; rfl; intro w' hw'; go_simp; (try with_reducible rfl)
      simp only [Act.put, List.setIfInBounds_toArray, List.set_cons_zero, List.set_cons_succ]
      apply wpR_next 1 (some 47)
      · simp only [List.getElem?_toArray, List.getElem?_cons_succ, List.getElem?_cons_zero]; exact rfl
      · rfl
      · kernel_rfl
      · kernel_rfl
      · kernel_rfl
      · exact fun _ _ _ _ h => h
      apply Exists.intro
      apply And.intro
      · apply yr_run; rfl; intro w' hw'; go_simp; (try with_reducible rfl)
      simp only [Act.put, List.setIfInBounds_toArray, List.set_cons_zero, List.set_cons_succ]
      apply wpR_next 2 (some 48)
      · simp only [List.getElem?_toArray, List.getElem?_cons_succ, List.getElem?_cons_zero]; exact rfl
      · rfl
      · kernel_rfl
      · kernel_rfl
      · kernel_rfl
      · exact fun _ _ _ _ h => h
      apply Exists.intro
      apply And.intro
      · apply yr_run; rfl; intro w' hw'; go_simp; (try with_reducible rfl)
      simp only [Act.put, List.setIfInBounds_toArray, List.set_cons_zero, List.set_cons_succ]
      apply wpR_next 3 (some 49)
      · simp only [List.getElem?_toArray, List.getElem?_cons_succ, List.getElem?_cons_zero]; exact rfl
      · rfl
      · kernel_rfl
      · kernel_rfl
      · kernel_rfl
      · exact fun _ _ _ _ h => h
      apply Exists.intro
      apply And.intro
      · apply yr_run; rfl; intro w' hw'; go_simp; (try with_reducible rfl)
      simp only [Act.put, List.setIfInBounds_toArray, List.set_cons_zero, List.set_cons_succ]
      apply wpR_next 4 (some 50)
      · simp only [List.getElem?_toArray, List.getElem?_cons_succ, List.getElem?_cons_zero]; exact rfl
      · rfl
      · kernel_rfl
      · kernel_rfl
      · kernel_rfl
      · exact fun _ _ _ _ h => h
      apply Exists.intro
      apply And.intro
      · apply yr_run; rfl; intro w' hw'; go_simp; (try with_reducible rfl)
      simp only [Act.put, List.setIfInBounds_toArray, List.set_cons_zero, List.set_cons_succ]
      apply wpR_next 5 (some 51)
      · simp only [List.getElem?_toArray, List.getElem?_cons_succ, List.getElem?_cons_zero]; exact rfl
      · rfl
      · kernel_rfl
      · kernel_rfl
      · kernel_rfl
      · exact fun _ _ _ _ h => h
      apply Exists.intro
      apply And.intro
      · apply yr_run; rfl; intro w' hw'; go_simp; (try with_reducible rfl)
      simp only [Act.put, List.setIfInBounds_toArray, List.set_cons_zero, List.set_cons_succ]
      apply wpR_next 6 (some 52)
      · simp only [List.getElem?_toArray, List.getElem?_cons_succ, List.getElem?_cons_zero]; exact rfl
      · rfl
      · kernel_rfl
      · kernel_rfl
      · kernel_rfl
      · exact fun _ _ _ _ h => h
      apply Exists.intro
      apply And.intro
      · apply yr_run; rfl; intro w' hw'; go_simp; (try with_reducible rfl)
      simp only [Act.put, List.setIfInBounds_toArray, List.set_cons_zero, List.set_cons_succ]
      apply wpR_next 7 (some 53)
      · simp only [List.getElem?_toArray, List.getElem?_cons_succ, List.getElem?_cons_zero]; exact rfl
      · rfl
      · kernel_rfl
      · kernel_rfl
      · kernel_rfl
      · exact fun _ _ _ _ h => h
      apply Exists.intro
      apply And.intro
      · apply yr_run; rfl; intro w' hw'; go_simp; (try with_reducible rfl)
      simp only [Act.put, List.setIfInBounds_toArray, List.set_cons_zero, List.set_cons_succ]
      apply wpR_next 8 (some 54)
      · simp only [List.getElem?_toArray, List.getElem?_cons_succ, List.getElem?_cons_zero]; exact rfl
      · rfl
      · kernel_rfl
      · kernel_rfl
      · kernel_rfl
      · exact fun _ _ _ _ h => h
      apply Exists.intro
      apply And.intro
      · apply yr_run; rfl; intro w' hw'; go_simp; (try with_reducible rfl)
      simp only [Act.put, List.setIfInBounds_toArray, List.set_cons_zero, List.set_cons_succ]
      apply wpR_next 9 (some 55)
      · simp only [List.getElem?_toArray, List.getElem?_cons_succ, List.getElem?_cons_zero]; exact rfl
      · rfl
      · kernel_rfl
      · kernel_rfl
      · kernel_rfl
      · exact fun _ _ _ _ h => h
      apply Exists.intro
      apply And.intro
      · apply yr_run; rfl; intro w' hw'; go_simp; (try with_reducible rfl)
      simp only [Act.put, List.setIfInBounds_toArray, List.set_cons_zero, List.set_cons_succ]
      apply wpR_next 10 (some 56)
      · simp only [List.getElem?_toArray, List.getElem?_cons_succ, List.getElem?_cons_zero]; exact rfl
      · rfl
      · kernel_rfl
      · kernel_rfl
      · kernel_rfl
      · exact fun _ _ _ _ h => h
      apply Exists.intro
      apply And.intro
      · apply yr_run; rfl; intro w' hw'; go_simp; (try with_reducible rfl)
      simp only [Act.put, List.setIfInBounds_toArray, List.set_cons_zero, List.set_cons_succ]
      apply wpR_call 11 (some 57)
      · simp only [List.getElem?_toArray, List.getElem?_cons_succ, List.getElem?_cons_zero]; exact rfl
      · rfl
      · kernel_rfl
      · rfl
      · intro w'; go_simp; first | done | exact ⟨rfl, rfl⟩ | with_reducible rfl
      intro w' hw'
      refine (ta_add b gb _ p.1 p.2 w' (TT2.out.tb.below hw')).mono ?_
      rintro e w6 ⟨rfl, gb1, ht6, hs6⟩
      have P3 := Lib.hid ((TT2.out.up hw').two ht6 hs6)
      have k6 : Kept (TwS bas2 a ga1 b gb) w' w6 := hs6.k.wider (fun i _ h => Own.tw2 h)
      clear ht6 hs6
      refine ⟨_, rfl, k6, ?_⟩
      clear hw'
      simp only [Act.put, List.setIfInBounds_toArray, List.set_cons_zero, List.set_cons_succ]
      refine wpR_done (by kernel_rfl) ?_ _
      intro w' hw'
      have PE := Lib.hid (P3.out.up hw')
      clear hw'
      go_wp2
      go_roundw
      case rel => exact ⟨k + 1, ga1, gb1, by omega, by go_num, _, PE.out⟩
      case measure => simp [intOf]; omega
end Go.Proofs.Ytgbkloilodgjfaa
