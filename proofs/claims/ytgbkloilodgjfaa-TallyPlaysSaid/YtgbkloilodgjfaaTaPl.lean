/- TallyPlays' walk. -/
import Derived.Test.YtgbkloilodgjfaaTaL
import Derived.Deep.DeepCutAuto
namespace Go.Proofs.Ytgbkloilodgjfaa
open Go.RowKit
set_option linter.unusedSimpArgs false

section
variable {w x x' x'' : World} {b c y r : Nat} {go gc g' g'' : Option Nat} {L L' M : List Int}
theorem Pl.cloned (h : Pl w b go y r L M x) (hc : x.heap.size ≤ c) (hgc : ∀ z, gc = some z → x.heap.size ≤ z) (hsep : gc = none ∨ gc ≠ g') (htc : Tl x' c gc L) (htb : Tl x' b g' L) (hs : Stp x x' b go g')
    (htb' : Tl x'' b g'' L') (hs' : Stp x' x'' b g' g'') : Pl w c gc y r L M x'' := by
  have h1 := h.one htb hs
  have h2 := h1.one htb' hs'
  have hcb : c ≠ b := by
    have := h.t.lt.1
    omega
  exact ⟨htc.far htb hs'.k hcb hsep, h2.f, h2.below, Nat.le_trans h.below.size hc, fun z e => Nat.le_trans h.below.size (hgc z e), h2.y0, h2.r0⟩
end

theorem Pl.yfar {w x : World} {b y r base : Nat} {go : Option Nat} {L M : List Int} (h : Pl w b go y r L M x) (hb : x.heap.size = base) : ¬ PlS base b go r y := by
  rintro (e | e | e)
  · exact h.t.own h.f.hd (by decide) (by decide) e
  · exact (h.f.hd.ne_ h.f.row (by decide)) e
  · have := h.f.hd.lt
    omega

/-- What holds at each round's head. -/
def PlayAt (w : World) (b : Nat) (go : Option Nat) (y r : Nat) (x : World) : Prop := ∃ L, Pl w b go y r L L x

theorem rem9 (k : Nat) : (Int.tmod (k : Int) 9) = ((k % 9 : Nat) : Int) := by
  rw [Int.tmod_eq_emod_of_nonneg (by omega)]
  omega

set_option maxRecDepth 100000 in
set_option maxHeartbeats 4000000 in
theorem law_tplays (kinds : Int) (A : Option Addr) (n c : Nat) (l : List (Int × Int)) (w : World) (hr : RdS w w.heap.size 2 A n c (pairsV l)) (hn : n ≤ maxLen) :
    Calls Try.prog 3 #[.int .i64 kinds, .slice A n c] w fun e w' => e = .returned (.bool true) ∧ Below w.heap.size w w' := by
  have H0 := Lib.hid ta_shown
  have HN := Lib.hid (ta_new kinds)
  have HRN := Lib.hid (rta_new kinds)
  have HC := Lib.hid (fun b g L W h => ta_clone b g L W h)
  have HAdd := Lib.hid (fun b g L W h => ta_add b g L 0 5 W h)
  have HR := Lib.hid hr
  have hl : l.length = n := by
    have := hr.len
    rw [pairsV_length] at this
    omega
  have HL := Lib.hid hl
  unfold maxLen at hn
  clear hr hl
  go_enter Try.func3, Try.ntmps3
  go_wp2_with (first
    | (go_at_call 12; refine (H0.out _).mono ?_; rintro e w1 ⟨rfl, hb1⟩; have HB1 := Lib.hid hb1; clear hb1)
    | (go_at_call 13; refine (HN.out _).mono ?_; rintro e w2 ⟨b, rfl, hb, ht, hb2⟩; have HB2 := Lib.hid hb2; have HT := Lib.hid ht; clear hb2 ht)
    | (go_at_call 14; refine (HRN.out _).mono ?_; rintro e w3 ⟨y, r, rfl, hy, hr, hf, hb3⟩; have HB3 := Lib.hid hb3; have HF := Lib.hid hf; clear hb3 hf))
  have HP : RowKit.Hid (PlayAt w b none y r w3) := by
    have h1 := HB1.out
    have h2 := HB2.out
    have h3 := HB3.out
    have s1 := h1.size
    have s2 := h2.size
    exact ⟨_, HT.out.below h3, HF.out, h1.trans ((h2.mono s1).trans (h3.mono (Nat.le_trans s1 s2))), Nat.le_trans s1 hb, fun g e => (by cases e), by omega, by omega⟩
  clear HB1 HB2 HB3 HT HF hb hy hr
  go_loopw [6, 8] (fun t i wr => ∃ (k b : Nat) (go : Option Nat), k ≤ n ∧ i = .int .i64 k ∧ t = .pointer (some ⟨b, 0, none⟩) ∧ PlayAt w b go y r wr) (fun _ i _ => n - (intOf i).toNat)
  case atStart => exact ⟨0, b, none, Nat.zero_le _, rfl, rfl, HP.out⟩
  case round =>
    clear HP
    obtain ⟨k, b, go, hk, rfl, rfl, hp⟩ := hrel
    have HP := Lib.hid hp
    clear hp
    by_cases hlt : k < n
    · by_cases h100 : k < 100
      · obtain ⟨ab, ao, rfl, hab, hac⟩ := HR.out.pairs (by omega)
        have HA := Lib.hid (hac k (by rw [HL.out]; exact hlt))
        clear hac
        go_upto_if 34 with fail
        go_cut [6] (fun t x => ∃ (b : Nat) (go : Option Nat), t = .pointer (some ⟨b, 0, none⟩) ∧ PlayAt w b go y r x)
        case first =>
          go_wp2_with (first
            | (go_at_call 15
               obtain ⟨L, hP⟩ := HP.out
               refine (HC.out _ _ _ _ (by exact hP.t)).mono ?_
               rintro e w4 ⟨cc, gc, g4, rfl, hcc, hgc, hsep, htc, htb, hs4⟩
               have HPc := Lib.hid (fun x'' g'' L' ht hs => Pl.cloned (x'' := x'') (g'' := g'') (L' := L') hP hcc hgc hsep htc htb hs4 ht hs)
               have HTb := Lib.hid htb
               clear hP hcc hgc hsep htc htb hs4)
            | (go_at_call 16; refine (HAdd.out _ _ _ _ (by exact HTb.out)).mono ?_; rintro e w5 ⟨rfl, g5, ht5, hs5⟩; have HP5 := Lib.hid (HPc.out _ _ _ ht5 hs5); clear ht5 hs5))
          all_goals go_meet
          · exact ⟨_, _, rfl, _, HP5.out⟩
          · exact ⟨_, _, rfl, HP.out⟩
        case rest =>
          clear HP
          obtain ⟨b, go, rfl, L, hP⟩ := hcut
          have hP1 := hP.up ((Below.refl _ wc).drew)
          obtain ⟨x1, gx1⟩ : ∃ v, (l.getD k (0, 0)).1 = v := ⟨_, rfl⟩
          obtain ⟨x2, gx2⟩ : ∃ v, (l.getD k (0, 0)).2 = v := ⟨_, rfl⟩
          have a1 := HA.out.1
          have a2 := HA.out.2
          rw [gx1] at a1
          rw [gx2] at a2
          obtain ⟨base, gbase⟩ : ∃ x, wc.drew.heap.size = x := ⟨_, rfl⟩
          have GB := Lib.hid gbase
          clear gbase
          have c1 : ∀ w', Kept (PlS base b go r) wc.drew w' → w'.cell? ⟨ab, ao + k * 2, none⟩ = some (.int .i64 x1) := fun w' h => h.cell ((hP1.below.cell hab).trans a1) (hP1.far hab (by rw [← GB.out]; exact hP1.below.size))
          have c2 : ∀ w', Kept (PlS base b go r) wc.drew w' → w'.cell? ⟨ab, ao + k * 2 + 1, none⟩ = some (.int .i64 x2) := fun w' h => h.cell ((hP1.below.cell hab).trans a2) (hP1.far hab (by rw [← GB.out]; exact hP1.below.size))
          have P1 := Lib.hid hP1
          clear a1 a2 gx1 gx2 hP hP1 HA
          obtain ⟨ev, gev⟩ : ∃ v, addE L x1 x2 = v := ⟨_, rfl⟩
          have GEV := Lib.hid gev
          obtain ⟨gv, ggv⟩ : ∃ v, getL (addL L x1 x2) x1 = v := ⟨_, rfl⟩
          have GGV := Lib.hid ggv
          clear gev ggv
          go_upto_region 15 with fail
          refine wp_region_reg (PlS base b go r) (by kernel_rfl) ?_
          apply wpR_next 0 (some 42)
          · simp only [List.getElem?_toArray, List.getElem?_cons_succ, List.getElem?_cons_zero]; exact rfl
          · rfl
          · kernel_rfl
          · kernel_rfl
          · kernel_rfl
          · exact fun _ _ _ _ h => h
          apply Exists.intro
          apply And.intro
          · apply yr_run; rfl; intro w' hw'; go_simp; (try with_reducible rfl)
          simp only [Act.put, List.setIfInBounds_toArray, List.set_cons_zero, List.set_cons_succ]
          apply wpR_next 1 (some 43)
          · simp only [List.getElem?_toArray, List.getElem?_cons_succ, List.getElem?_cons_zero]; exact rfl
          · rfl
          · kernel_rfl
          · kernel_rfl
          · kernel_rfl
          · exact fun _ _ _ _ h => h
          apply Exists.intro
          apply And.intro
          · apply yr_run; rfl; intro w' hw'; go_simp; (try with_reducible rfl)
          simp only [Act.put, List.setIfInBounds_toArray, List.set_cons_zero, List.set_cons_succ]
          apply wpR_next 2 (some 44)
          · simp only [List.getElem?_toArray, List.getElem?_cons_succ, List.getElem?_cons_zero]; exact rfl
          · rfl
          · kernel_rfl
          · kernel_rfl
          · kernel_rfl
          · exact fun _ _ _ _ h => h
          apply Exists.intro
          apply And.intro
          · apply yr_run; rfl; intro w' hw'; go_simp; (try with_reducible rfl)
          simp only [Act.put, List.setIfInBounds_toArray, List.set_cons_zero, List.set_cons_succ]
          apply wpR_next 3 (some 45)
          · simp only [List.getElem?_toArray, List.getElem?_cons_succ, List.getElem?_cons_zero]; exact rfl
          · rfl
          · kernel_rfl
          · kernel_rfl
          · kernel_rfl
          · exact fun _ _ _ _ h => h
          apply Exists.intro
          apply And.intro
          · apply yr_run; rfl; intro w' hw'; go_simp; (try with_reducible rfl)
          simp only [Act.put, List.setIfInBounds_toArray, List.set_cons_zero, List.set_cons_succ]
          apply wpR_next 4 (some 46)
          · simp only [List.getElem?_toArray, List.getElem?_cons_succ, List.getElem?_cons_zero]; exact rfl
          · rfl
          · kernel_rfl
          · kernel_rfl
          · kernel_rfl
          · exact fun _ _ _ _ h => h
          apply Exists.intro
          apply And.intro
          · apply yr_run; rfl; intro w' hw'; go_simp; (try with_reducible rfl)
          simp only [Act.put, List.setIfInBounds_toArray, List.set_cons_zero, List.set_cons_succ]
          apply wpR_next 5 (some 47)
          · simp only [List.getElem?_toArray, List.getElem?_cons_succ, List.getElem?_cons_zero]; exact rfl
          · rfl
          · kernel_rfl
          · kernel_rfl
          · kernel_rfl
          · exact fun _ _ _ _ h => h
          apply Exists.intro
          apply And.intro
          · apply yr_run; rfl; intro w' hw'; go_simp; (try with_reducible rfl)
          simp only [Act.put, List.setIfInBounds_toArray, List.set_cons_zero, List.set_cons_succ]
          apply wpR_next 6 (some 48)
          · simp only [List.getElem?_toArray, List.getElem?_cons_succ, List.getElem?_cons_zero]; exact rfl
          · rfl
          · kernel_rfl
          · kernel_rfl
          · kernel_rfl
          · exact fun _ _ _ _ h => h
          apply Exists.intro
          apply And.intro
          · apply yr_run; rfl; intro w' hw'; go_simp; (try with_reducible rfl)
          simp only [Act.put, List.setIfInBounds_toArray, List.set_cons_zero, List.set_cons_succ]
          apply wpR_next 7 (some 49)
          · simp only [List.getElem?_toArray, List.getElem?_cons_succ, List.getElem?_cons_zero]; exact rfl
          · rfl
          · kernel_rfl
          · kernel_rfl
          · kernel_rfl
          · exact fun _ _ _ _ h => h
          apply Exists.intro
          apply And.intro
          · apply yr_run; rfl; intro w' hw'; go_simp; (try with_reducible rfl)
          simp only [Act.put, List.setIfInBounds_toArray, List.set_cons_zero, List.set_cons_succ]
          apply wpR_next 8 (some 50)
          · simp only [List.getElem?_toArray, List.getElem?_cons_succ, List.getElem?_cons_zero]; exact rfl
          · rfl
          · kernel_rfl
          · kernel_rfl
          · kernel_rfl
          · exact fun _ _ _ _ h => h
          apply Exists.intro
          apply And.intro
          · apply yr_run; rfl; intro w' hw'; go_simp; (try with_reducible rfl)
          simp only [Act.put, List.setIfInBounds_toArray, List.set_cons_zero, List.set_cons_succ]
          apply wpR_next 9 (some 51)
          · simp only [List.getElem?_toArray, List.getElem?_cons_succ, List.getElem?_cons_zero]; exact rfl
          · rfl
          · kernel_rfl
          · kernel_rfl
          · kernel_rfl
          · exact fun _ _ _ _ h => h
          apply Exists.intro
          apply And.intro
          · apply yr_run; rfl; intro w' hw'; go_simp; (try with_reducible rfl)
          simp only [Act.put, List.setIfInBounds_toArray, List.set_cons_zero, List.set_cons_succ]
          apply wpR_next 10 (some 52)
          · simp only [List.getElem?_toArray, List.getElem?_cons_succ, List.getElem?_cons_zero]; exact rfl
          · rfl
          · kernel_rfl
          · kernel_rfl
          · kernel_rfl
          · exact fun _ _ _ _ h => h
          apply Exists.intro
          apply And.intro
          · apply yr_run; rfl; intro w' hw'; go_simp; (try with_reducible rfl)
          simp only [Act.put, List.setIfInBounds_toArray, List.set_cons_zero, List.set_cons_succ]
          apply wpR_next 12 (some 54)
          · simp only [List.getElem?_toArray, List.getElem?_cons_succ, List.getElem?_cons_zero]; exact rfl
          · rfl
          · kernel_rfl
          · kernel_rfl
          · kernel_rfl
          · exact fun _ _ _ _ h => h
          apply Exists.intro
          apply And.intro
          · apply yr_run; rfl; intro w' hw'; go_simp; (try with_reducible rfl)
          simp only [Act.put, List.setIfInBounds_toArray, List.set_cons_zero, List.set_cons_succ]
          apply wpR_next 13 (some 55)
          · simp only [List.getElem?_toArray, List.getElem?_cons_succ, List.getElem?_cons_zero]; exact rfl
          · rfl
          · kernel_rfl
          · kernel_rfl
          · kernel_rfl
          · exact fun _ _ _ _ h => h
          apply Exists.intro
          apply And.intro
          · apply yr_run; rfl; intro w' hw'; go_simp; (try with_reducible rfl)
          simp only [Act.put, List.setIfInBounds_toArray, List.set_cons_zero, List.set_cons_succ]
          apply wpR_next 14 (some 56)
          · simp only [List.getElem?_toArray, List.getElem?_cons_succ, List.getElem?_cons_zero]; exact rfl
          · rfl
          · kernel_rfl
          · kernel_rfl
          · kernel_rfl
          · exact fun _ _ _ _ h => h
          apply Exists.intro
          apply And.intro
          · apply yr_run; rfl; intro w' hw'; go_simp; (try with_reducible rfl)
          simp only [Act.put, List.setIfInBounds_toArray, List.set_cons_zero, List.set_cons_succ]
          apply wpR_next 15 (some 57)
          · simp only [List.getElem?_toArray, List.getElem?_cons_succ, List.getElem?_cons_zero]; exact rfl
          · rfl
          · kernel_rfl
          · kernel_rfl
          · kernel_rfl
          · exact fun _ _ _ _ h => h
          apply Exists.intro
          apply And.intro
          · apply yr_run; rfl; intro w' hw'; go_simp; (try with_reducible rfl)
          simp only [Act.put, List.setIfInBounds_toArray, List.set_cons_zero, List.set_cons_succ]
          apply wpR_next 16 (some 58)
          · simp only [List.getElem?_toArray, List.getElem?_cons_succ, List.getElem?_cons_zero]; exact rfl
          · rfl
          · kernel_rfl
          · kernel_rfl
          · kernel_rfl
          · exact fun _ _ _ _ h => h
          apply Exists.intro
          apply And.intro
          · apply yr_run; rfl; intro w' hw'; go_simp; (try with_reducible rfl)
          simp only [Act.put, List.setIfInBounds_toArray, List.set_cons_zero, List.set_cons_succ]
          apply wpR_next 17 (some 59)
          · simp only [List.getElem?_toArray, List.getElem?_cons_succ, List.getElem?_cons_zero]; exact rfl
          · rfl
          · kernel_rfl
          · kernel_rfl
          · kernel_rfl
          · exact fun _ _ _ _ h => h
          apply Exists.intro
          apply And.intro
          · apply yr_run; rfl; intro w' hw'; go_simp; (try with_reducible rfl)
          simp only [Act.put, List.setIfInBounds_toArray, List.set_cons_zero, List.set_cons_succ]
          apply wpR_next 18 (some 60)
          · simp only [List.getElem?_toArray, List.getElem?_cons_succ, List.getElem?_cons_zero]; exact rfl
          · rfl
          · kernel_rfl
          · kernel_rfl
          · kernel_rfl
          · exact fun _ _ _ _ h => h
          apply Exists.intro
          apply And.intro
          · apply yr_run; rfl; intro w' hw'; go_simp; (try with_reducible rfl)
          simp only [Act.put, List.setIfInBounds_toArray, List.set_cons_zero, List.set_cons_succ]
          apply wpR_next 19 (some 61)
          · simp only [List.getElem?_toArray, List.getElem?_cons_succ, List.getElem?_cons_zero]; exact rfl
          · rfl
          · kernel_rfl
          · kernel_rfl
          · kernel_rfl
          · exact fun _ _ _ _ h => h
          apply Exists.intro
          apply And.intro
          · apply yr_run; rfl; intro w' hw'; go_simp; (try with_reducible rfl)
          simp only [Act.put, List.setIfInBounds_toArray, List.set_cons_zero, List.set_cons_succ]
          apply wpR_next 20 (some 62)
          · simp only [List.getElem?_toArray, List.getElem?_cons_succ, List.getElem?_cons_zero]; exact rfl
          · rfl
          · kernel_rfl
          · kernel_rfl
          · kernel_rfl
          · exact fun _ _ _ _ h => h
          apply Exists.intro
          apply And.intro
          · apply yr_run; rfl; intro w' hw'; go_simp; (try with_reducible rfl)
          simp only [Act.put, List.setIfInBounds_toArray, List.set_cons_zero, List.set_cons_succ]
          apply wpR_next 21 (some 63)
          · simp only [List.getElem?_toArray, List.getElem?_cons_succ, List.getElem?_cons_zero]; exact rfl
          · rfl
          · kernel_rfl
          · kernel_rfl
          · kernel_rfl
          · exact fun _ _ _ _ h => h
          apply Exists.intro
          apply And.intro
          · apply yr_run; rfl; intro w' hw'; go_simp; (try with_reducible rfl)
          simp only [Act.put, List.setIfInBounds_toArray, List.set_cons_zero, List.set_cons_succ]
          apply wpR_next 22 (some 64)
          · simp only [List.getElem?_toArray, List.getElem?_cons_succ, List.getElem?_cons_zero]; exact rfl
          · rfl
          · kernel_rfl
          · kernel_rfl
          · kernel_rfl
          · exact fun _ _ _ _ h => h
          apply Exists.intro
          apply And.intro
          · apply yr_run; rfl; intro w' hw'; go_simp; (try with_reducible rfl)
          simp only [Act.put, List.setIfInBounds_toArray, List.set_cons_zero, List.set_cons_succ]
          apply wpR_call 11 (some 53)
          · simp only [List.getElem?_toArray, List.getElem?_cons_succ, List.getElem?_cons_zero]; exact rfl
          · rfl
          · kernel_rfl
          · rfl
          · intro w'; go_simp; first | done | exact ⟨rfl, rfl⟩ | with_reducible rfl
          intro w' hw'
          refine (ta_add b go L x1 x2 w' (P1.out.t.below hw')).mono ?_
          rintro e w5 ⟨rfl, g5, ht5, hs5⟩
          rw [GEV.out]
          have P2 := Lib.hid ((P1.out.up hw').one ht5 hs5)
          have n5 := hs5.nx (base := base) (by rw [← GB.out]; exact hw'.size)
          have k5 : Kept (PlS base b go r) w' w5 := hs5.k.wider (fun i _ h => Own.sub (NxB.refl _ _) h)
          clear ht5 hs5
          refine ⟨_, rfl, k5, ?_⟩
          have d1 := fun w'' (h : Kept (PlS base b go r) w5 w'') => c1 w'' ((Kept.of_ext hw').trans (k5.trans h))
          have d2 := fun w'' (h : Kept (PlS base b go r) w5 w'') => c2 w'' ((Kept.of_ext hw').trans (k5.trans h))
          clear hw'
          simp only [Act.put, List.setIfInBounds_toArray, List.set_cons_zero, List.set_cons_succ]
          apply wpR_call 23 (some 65)
          · simp only [List.getElem?_toArray, List.getElem?_cons_succ, List.getElem?_cons_zero]; exact rfl
          · rfl
          · kernel_rfl
          · rfl
          · intro w'; go_simp; first | done | exact ⟨rfl, rfl⟩ | with_reducible rfl
          intro w' hw'
          refine (rta_add y r L x1 x2 w' (P2.out.f.below hw')).mono ?_
          rintro e w6 ⟨rfl, hf6, hk6⟩
          rw [GEV.out]
          have P3 := Lib.hid ((P2.out.up hw').two hf6 hk6)
          have k6 : Kept (PlS base b go r) w' w6 := hk6.wider (fun i _ h => .inr (.inl h))
          clear hf6 hk6
          refine ⟨_, rfl, k6, ?_⟩
          have f1 := fun w'' (h : Kept (PlS base b go r) w6 w'') => d1 w'' ((Kept.of_ext hw').trans (k6.trans h))
          have f2 := fun w'' (h : Kept (PlS base b go r) w6 w'') => d2 w'' ((Kept.of_ext hw').trans (k6.trans h))
          clear hw'
          simp only [Act.put, List.setIfInBounds_toArray, List.set_cons_zero, List.set_cons_succ]
          apply wpR_next 24 (some 66)
          · simp only [List.getElem?_toArray, List.getElem?_cons_succ, List.getElem?_cons_zero]; exact rfl
          · rfl
          · kernel_rfl
          · kernel_rfl
          · kernel_rfl
          · exact fun _ _ _ _ h => h
          apply Exists.intro
          apply And.intro
          · apply yr_run; rfl; intro w' hw'; go_simp; (try with_reducible rfl)
          simp only [Act.put, List.setIfInBounds_toArray, List.set_cons_zero, List.set_cons_succ]
          apply wpR_next 25 (some 67)
          · simp only [List.getElem?_toArray, List.getElem?_cons_succ, List.getElem?_cons_zero]; exact rfl
          · rfl
          · kernel_rfl
          · kernel_rfl
          · kernel_rfl
          · exact fun _ _ _ _ h => h
          apply Exists.intro
          apply And.intro
          · apply yr_run; rfl; intro w' hw'; go_simp; (try with_reducible rfl)
          simp only [Act.put, List.setIfInBounds_toArray, List.set_cons_zero, List.set_cons_succ]
          apply wpR_next 26 (some 68)
          · simp only [List.getElem?_toArray, List.getElem?_cons_succ, List.getElem?_cons_zero]; exact rfl
          · rfl
          · kernel_rfl
          · kernel_rfl
          · kernel_rfl
          · exact fun _ _ _ _ h => h
          apply Exists.intro
          apply And.intro
          · apply yr_run; rfl; intro w' hw'; go_simp; (try with_reducible rfl)
          simp only [Act.put, List.setIfInBounds_toArray, List.set_cons_zero, List.set_cons_succ]
          apply wpR_next 27 (some 69)
          · simp only [List.getElem?_toArray, List.getElem?_cons_succ, List.getElem?_cons_zero]; exact rfl
          · rfl
          · kernel_rfl
          · kernel_rfl
          · kernel_rfl
          · exact fun _ _ _ _ h => h
          apply Exists.intro
          apply And.intro
          · apply yr_run; rfl; intro w' hw'; go_simp; (try with_reducible rfl)
          simp only [Act.put, List.setIfInBounds_toArray, List.set_cons_zero, List.set_cons_succ]
          apply wpR_next 28 (some 70)
          · simp only [List.getElem?_toArray, List.getElem?_cons_succ, List.getElem?_cons_zero]; exact rfl
          · rfl
          · kernel_rfl
          · kernel_rfl
          · kernel_rfl
          · exact fun _ _ _ _ h => h
          apply Exists.intro
          apply And.intro
          · apply yr_run; rfl; intro w' hw'; go_simp; (try with_reducible rfl)
          simp only [Act.put, List.setIfInBounds_toArray, List.set_cons_zero, List.set_cons_succ]
          apply wpR_next 29 (some 71)
          · simp only [List.getElem?_toArray, List.getElem?_cons_succ, List.getElem?_cons_zero]; exact rfl
          · rfl
          · kernel_rfl
          · kernel_rfl
          · kernel_rfl
          · exact fun _ _ _ _ h => h
          apply Exists.intro
          apply And.intro
          · apply yr_run; rfl; intro w' hw'; go_simp; (try with_reducible rfl)
          simp only [Act.put, List.setIfInBounds_toArray, List.set_cons_zero, List.set_cons_succ]
          apply wpR_next 30 (some 72)
          · simp only [List.getElem?_toArray, List.getElem?_cons_succ, List.getElem?_cons_zero]; exact rfl
          · rfl
          · kernel_rfl
          · kernel_rfl
          · kernel_rfl
          · exact fun _ _ _ _ h => h
          apply Exists.intro
          apply And.intro
          · apply yr_run; rfl; intro w' hw'; go_simp; (try with_reducible rfl)
          simp only [Act.put, List.setIfInBounds_toArray, List.set_cons_zero, List.set_cons_succ]
          apply wpR_next 31 (some 73)
          · simp only [List.getElem?_toArray, List.getElem?_cons_succ, List.getElem?_cons_zero]; exact rfl
          · rfl
          · kernel_rfl
          · kernel_rfl
          · kernel_rfl
          · exact fun _ _ _ _ h => h
          apply Exists.intro
          apply And.intro
          · apply yr_run; rfl; intro w' hw'; go_simp; (try with_reducible rfl)
          simp only [Act.put, List.setIfInBounds_toArray, List.set_cons_zero, List.set_cons_succ]
          apply wpR_next 33 (some 75)
          · simp only [List.getElem?_toArray, List.getElem?_cons_succ, List.getElem?_cons_zero]; exact rfl
          · rfl
          · kernel_rfl
          · kernel_rfl
          · kernel_rfl
          · exact fun _ _ _ _ h => h
          apply Exists.intro
          apply And.intro
          · apply yr_run; rfl; intro w' hw'; go_simp; (try with_reducible rfl)
          simp only [Act.put, List.setIfInBounds_toArray, List.set_cons_zero, List.set_cons_succ]
          apply wpR_next 34 (some 76)
          · simp only [List.getElem?_toArray, List.getElem?_cons_succ, List.getElem?_cons_zero]; exact rfl
          · rfl
          · kernel_rfl
          · kernel_rfl
          · kernel_rfl
          · exact fun _ _ _ _ h => h
          apply Exists.intro
          apply And.intro
          · apply yr_run; rfl; intro w' hw'; go_simp; (try with_reducible rfl)
          simp only [Act.put, List.setIfInBounds_toArray, List.set_cons_zero, List.set_cons_succ]
          apply wpR_next 35 (some 77)
          · simp only [List.getElem?_toArray, List.getElem?_cons_succ, List.getElem?_cons_zero]; exact rfl
          · rfl
          · kernel_rfl
          · kernel_rfl
          · kernel_rfl
          · exact fun _ _ _ _ h => h
          apply Exists.intro
          apply And.intro
          · apply yr_run; rfl; intro w' hw'; go_simp; (try with_reducible rfl)
          simp only [Act.put, List.setIfInBounds_toArray, List.set_cons_zero, List.set_cons_succ]
          apply wpR_next 36 (some 78)
          · simp only [List.getElem?_toArray, List.getElem?_cons_succ, List.getElem?_cons_zero]; exact rfl
          · rfl
          · kernel_rfl
          · kernel_rfl
          · kernel_rfl
          · exact fun _ _ _ _ h => h
          apply Exists.intro
          apply And.intro
          · apply yr_run; rfl; intro w' hw'; go_simp; (try with_reducible rfl)
          simp only [Act.put, List.setIfInBounds_toArray, List.set_cons_zero, List.set_cons_succ]
          apply wpR_next 37 (some 79)
          · simp only [List.getElem?_toArray, List.getElem?_cons_succ, List.getElem?_cons_zero]; exact rfl
          · rfl
          · kernel_rfl
          · kernel_rfl
          · kernel_rfl
          · exact fun _ _ _ _ h => h
          apply Exists.intro
          apply And.intro
          · apply yr_run; rfl; intro w' hw'; go_simp; (try with_reducible rfl)
          simp only [Act.put, List.setIfInBounds_toArray, List.set_cons_zero, List.set_cons_succ]
          apply wpR_next 38 (some 80)
          · simp only [List.getElem?_toArray, List.getElem?_cons_succ, List.getElem?_cons_zero]; exact rfl
          · rfl
          · kernel_rfl
          · kernel_rfl
          · kernel_rfl
          · exact fun _ _ _ _ h => h
          apply Exists.intro
          apply And.intro
          · apply yr_run; rfl; intro w' hw'; go_simp; (try with_reducible rfl)
          simp only [Act.put, List.setIfInBounds_toArray, List.set_cons_zero, List.set_cons_succ]
          apply wpR_call 32 (some 74)
          · simp only [List.getElem?_toArray, List.getElem?_cons_succ, List.getElem?_cons_zero]; exact rfl
          · rfl
          · kernel_rfl
          · rfl
          · intro w'; go_simp; first | done | exact ⟨rfl, rfl⟩ | with_reducible rfl
          intro w' hw'
          refine (ta_get b g5 _ x1 w' (P3.out.t.below hw')).mono ?_
          rintro e w7 ⟨rfl, g7, ht7, hs7⟩
          rw [GGV.out]
          have P4 := Lib.hid ((P3.out.up hw').one ht7 hs7)
          have k7 : Kept (PlS base b go r) w' w7 := hs7.k.wider (fun i _ h => Own.sub n5 h)
          clear ht7 hs7
          refine ⟨_, rfl, k7, ?_⟩
          have g1 := fun w'' (h : Kept (PlS base b go r) w7 w'') => f1 w'' ((Kept.of_ext hw').trans (k7.trans h))
          have g2 := fun w'' (h : Kept (PlS base b go r) w7 w'') => f2 w'' ((Kept.of_ext hw').trans (k7.trans h))
          clear hw'
          simp only [Act.put, List.setIfInBounds_toArray, List.set_cons_zero, List.set_cons_succ]
          apply wpR_call 39 (some 81)
          · simp only [List.getElem?_toArray, List.getElem?_cons_succ, List.getElem?_cons_zero]; exact rfl
          · rfl
          · kernel_rfl
          · rfl
          · intro w'; go_simp; first | done | exact ⟨rfl, rfl⟩ | with_reducible rfl
          intro w' hw'
          refine (rta_get y r _ x1 w' (P4.out.f.below hw')).mono ?_
          rintro e w8 ⟨rfl, rfl⟩
          rw [GGV.out]
          have P5 := Lib.hid (P4.out.up hw')
          clear P4
          have P4 := P5
          clear P5
          refine ⟨_, rfl, Kept.refl _ _, ?_⟩
          simp only [Act.put, List.setIfInBounds_toArray, List.set_cons_zero, List.set_cons_succ]
          apply wpR_next 40 (some 82)
          · simp only [List.getElem?_toArray, List.getElem?_cons_succ, List.getElem?_cons_zero]; exact rfl
          · rfl
          · kernel_rfl
          · kernel_rfl
          · kernel_rfl
          · exact fun _ _ _ _ h => h
          apply Exists.intro
          apply And.intro
          · apply yr_run; rfl; intro w' hw'; go_simp; (try with_reducible rfl)
          simp only [Act.put, List.setIfInBounds_toArray, List.set_cons_zero, List.set_cons_succ]
          apply wpR_next 41 (some 83)
          · simp only [List.getElem?_toArray, List.getElem?_cons_succ, List.getElem?_cons_zero]; exact rfl
          · rfl
          · kernel_rfl
          · kernel_rfl
          · kernel_rfl
          · exact fun _ _ _ _ h => h
          apply Exists.intro
          apply And.intro
          · apply yr_run; rfl; intro w' hw'; go_simp; (try with_reducible rfl)
          simp only [Act.put, List.setIfInBounds_toArray, List.set_cons_zero, List.set_cons_succ]
          refine wpR_done (by kernel_rfl) ?_ _
          intro w' hw'
          have PE := Lib.hid (P4.out.up hw')
          clear hw'
          go_wp2
          go_roundw
          case rel => exact ⟨k + 1, _, _, by omega, by go_num, rfl, _, PE.out⟩
          case measure => simp [intOf]; omega
      · have h100' : ¬ (k : Int) < 100 := by omega
        obtain ⟨L, hP⟩ := HP.out
        obtain ⟨base, gbase⟩ : ∃ x, wr.drew.heap.size = x := ⟨_, rfl⟩
        have hP1 := hP.up ((Below.refl _ wr).drew)
        have cy : ∀ w', Kept (PlS base b go r) wr.drew w' → w'.cell? ⟨y, 0, none⟩ = some (.slice (some ⟨r, 0, none⟩) L.length L.length) := fun w' h => h.cell (hP1.f.hd.cell rfl) (hP1.yfar gbase)
        have P1 := Lib.hid hP1
        have GB := Lib.hid gbase
        have HSum := Lib.hid (fun b g L W h => ta_sum b g L W h)
        have HRSum := Lib.hid (fun y r L W h => rta_sum y r L W h)
        clear hP hP1 gbase HP
        go_upto_region 17 with fail
        refine wp_region_reg (PlS base b go r) (by kernel_rfl) ?_
        apply wpR_next 0 (some 84)
        · simp only [List.getElem?_toArray, List.getElem?_cons_succ, List.getElem?_cons_zero]; exact rfl
        · rfl
        · kernel_rfl
        · kernel_rfl
        · kernel_rfl
        · exact fun _ _ _ _ h => h
        apply Exists.intro
        apply And.intro
        · apply yr_run; rfl; intro w' hw'; go_simp; (try with_reducible rfl)
        simp only [Act.put, List.setIfInBounds_toArray, List.set_cons_zero, List.set_cons_succ]
        apply wpR_next 2 (some 86)
        · simp only [List.getElem?_toArray, List.getElem?_cons_succ, List.getElem?_cons_zero]; exact rfl
        · rfl
        · kernel_rfl
        · kernel_rfl
        · kernel_rfl
        · exact fun _ _ _ _ h => h
        apply Exists.intro
        apply And.intro
        · apply yr_run; rfl; intro w' hw'; go_simp; (try with_reducible rfl)
        simp only [Act.put, List.setIfInBounds_toArray, List.set_cons_zero, List.set_cons_succ]
        apply wpR_next 3 (some 87)
        · simp only [List.getElem?_toArray, List.getElem?_cons_succ, List.getElem?_cons_zero]; exact rfl
        · rfl
        · kernel_rfl
        · kernel_rfl
        · kernel_rfl
        · exact fun _ _ _ _ h => h
        apply Exists.intro
        apply And.intro
        · apply yr_run; rfl; intro w' hw'; go_simp; (try with_reducible rfl)
        simp only [Act.put, List.setIfInBounds_toArray, List.set_cons_zero, List.set_cons_succ]
        apply wpR_next 4 (some 88)
        · simp only [List.getElem?_toArray, List.getElem?_cons_succ, List.getElem?_cons_zero]; exact rfl
        · rfl
        · kernel_rfl
        · kernel_rfl
        · kernel_rfl
        · exact fun _ _ _ _ h => h
        apply Exists.intro
        apply And.intro
        · apply yr_run; rfl; intro w' hw'; go_simp; (try with_reducible rfl)
        simp only [Act.put, List.setIfInBounds_toArray, List.set_cons_zero, List.set_cons_succ]
        apply wpR_next 5 (some 89)
        · simp only [List.getElem?_toArray, List.getElem?_cons_succ, List.getElem?_cons_zero]; exact rfl
        · rfl
        · kernel_rfl
        · kernel_rfl
        · kernel_rfl
        · exact fun _ _ _ _ h => h
        apply Exists.intro
        apply And.intro
        · apply yr_run; rfl; intro w' hw'; go_simp; (try with_reducible rfl)
        simp only [Act.put, List.setIfInBounds_toArray, List.set_cons_zero, List.set_cons_succ]
        apply wpR_call 1 (some 85)
        · simp only [List.getElem?_toArray, List.getElem?_cons_succ, List.getElem?_cons_zero]; exact rfl
        · rfl
        · kernel_rfl
        · rfl
        · intro w'; go_simp; first | done | exact ⟨rfl, rfl⟩ | with_reducible rfl
        intro w' hw'
        refine (ta_all b go L w' (P1.out.t.below hw')).mono ?_
        rintro e w5 ⟨h, rfl, hh, hrow, g5, ht5, hs5⟩
        have P2 := Lib.hid ((P1.out.up hw').one ht5 hs5)
        have R2 := Lib.hid hrow
        have k5 : Kept (PlS base b go r) w' w5 := hs5.k.wider (fun i _ h => Own.sub (NxB.refl _ _) h)
        clear ht5 hs5 hrow
        refine ⟨_, rfl, k5, ?_⟩
        have cz := fun w'' (h : Kept (PlS base b go r) w5 w'') => cy w'' ((Kept.of_ext hw').trans (k5.trans h))
        clear hw'
        simp only [Act.put, List.setIfInBounds_toArray, List.set_cons_zero, List.set_cons_succ]
        apply wpR_call 6 (some 90)
        · simp only [List.getElem?_toArray, List.getElem?_cons_succ, List.getElem?_cons_zero]; exact rfl
        · rfl
        · kernel_rfl
        · rfl
        · intro w'; go_simp; first | done | exact ⟨rfl, rfl⟩ | with_reducible rfl
        intro w' hw'
        have hI := ints_same (some ⟨h, 0, none⟩) (some ⟨r, 0, none⟩) L.length L.length L.length L.length L L w' (RdS.whole (R2.out.below hw')) (RdS.whole (P2.out.f.below hw').row) (by have := P2.out.t.len; omega)
        rw [show decide (L = L) = true from decide_eq_true rfl] at hI
        refine hI.mono ?_
        rintro e w6 ⟨rfl, hb6⟩
        have P3 := Lib.hid ((P2.out.up hw').up hb6)
        refine ⟨_, rfl, Kept.of_below hb6, ?_⟩
        clear hw'
        simp only [Act.put, List.setIfInBounds_toArray, List.set_cons_zero, List.set_cons_succ]
        apply wpR_next 7 (some 10)
        · simp only [List.getElem?_toArray, List.getElem?_cons_succ, List.getElem?_cons_zero]; exact rfl
        · rfl
        · kernel_rfl
        · kernel_rfl
        · kernel_rfl
        · exact fun _ _ _ _ h => h
        apply Exists.intro
        apply And.intro
        · apply yr_run; rfl; intro w' hw'; go_simp; (try with_reducible rfl)
        simp only [Act.put, List.setIfInBounds_toArray, List.set_cons_zero, List.set_cons_succ]
        refine wpR_done (by kernel_rfl) ?_ _
        intro w' hw'
        have P4 := Lib.hid (P3.out.up hw')
        clear cy cz hw'
        go_wp2_with (first
          | (go_at_call 22; refine (HSum.out _ _ _ _ (by exact P4.out.t)).mono ?_; rintro e w9 ⟨rfl, g9, ht9, hs9⟩; have P5 := Lib.hid (P4.out.one ht9 hs9); clear ht9 hs9)
          | (go_at_call 23; refine (HRSum.out _ _ _ _ (by exact P5.out.f)).mono ?_; rintro e w10 ⟨rfl, rfl⟩))
        go_ret
        exact ⟨rfl, P5.out.below⟩
    · have hlt' : ¬ (k : Int) < n := by omega
      obtain ⟨L, hP⟩ := HP.out
      obtain ⟨base, gbase⟩ : ∃ x, wr.drew.heap.size = x := ⟨_, rfl⟩
      have hP1 := hP.up ((Below.refl _ wr).drew)
      have cy : ∀ w', Kept (PlS base b go r) wr.drew w' → w'.cell? ⟨y, 0, none⟩ = some (.slice (some ⟨r, 0, none⟩) L.length L.length) := fun w' h => h.cell (hP1.f.hd.cell rfl) (hP1.yfar gbase)
      have P1 := Lib.hid hP1
      have GB := Lib.hid gbase
      have HSum := Lib.hid (fun b g L W h => ta_sum b g L W h)
      have HRSum := Lib.hid (fun y r L W h => rta_sum y r L W h)
      clear hP hP1 gbase HP
      go_upto_region 17 with fail
      refine wp_region_reg (PlS base b go r) (by kernel_rfl) ?_
      apply wpR_next 0 (some 84)
      · simp only [List.getElem?_toArray, List.getElem?_cons_succ, List.getElem?_cons_zero]; exact rfl
      · rfl
      · kernel_rfl
      · kernel_rfl
      · kernel_rfl
      · exact fun _ _ _ _ h => h
      apply Exists.intro
      apply And.intro
      · apply yr_run; rfl; intro w' hw'; go_simp; (try with_reducible rfl)
      simp only [Act.put, List.setIfInBounds_toArray, List.set_cons_zero, List.set_cons_succ]
      apply wpR_next 2 (some 86)
      · simp only [List.getElem?_toArray, List.getElem?_cons_succ, List.getElem?_cons_zero]; exact rfl
      · rfl
      · kernel_rfl
      · kernel_rfl
      · kernel_rfl
      · exact fun _ _ _ _ h => h
      apply Exists.intro
      apply And.intro
      · apply yr_run; rfl; intro w' hw'; go_simp; (try with_reducible rfl)
      simp only [Act.put, List.setIfInBounds_toArray, List.set_cons_zero, List.set_cons_succ]
      apply wpR_next 3 (some 87)
      · simp only [List.getElem?_toArray, List.getElem?_cons_succ, List.getElem?_cons_zero]; exact rfl
      · rfl
      · kernel_rfl
      · kernel_rfl
      · kernel_rfl
      · exact fun _ _ _ _ h => h
      apply Exists.intro
      apply And.intro
      · apply yr_run; rfl; intro w' hw'; go_simp; (try with_reducible rfl)
      simp only [Act.put, List.setIfInBounds_toArray, List.set_cons_zero, List.set_cons_succ]
      apply wpR_next 4 (some 88)
      · simp only [List.getElem?_toArray, List.getElem?_cons_succ, List.getElem?_cons_zero]; exact rfl
      · rfl
      · kernel_rfl
      · kernel_rfl
      · kernel_rfl
      · exact fun _ _ _ _ h => h
      apply Exists.intro
      apply And.intro
      · apply yr_run; rfl; intro w' hw'; go_simp; (try with_reducible rfl)
      simp only [Act.put, List.setIfInBounds_toArray, List.set_cons_zero, List.set_cons_succ]
      apply wpR_next 5 (some 89)
      · simp only [List.getElem?_toArray, List.getElem?_cons_succ, List.getElem?_cons_zero]; exact rfl
      · rfl
      · kernel_rfl
      · kernel_rfl
      · kernel_rfl
      · exact fun _ _ _ _ h => h
      apply Exists.intro
      apply And.intro
      · apply yr_run; rfl; intro w' hw'; go_simp; (try with_reducible rfl)
      simp only [Act.put, List.setIfInBounds_toArray, List.set_cons_zero, List.set_cons_succ]
      apply wpR_call 1 (some 85)
      · simp only [List.getElem?_toArray, List.getElem?_cons_succ, List.getElem?_cons_zero]; exact rfl
      · rfl
      · kernel_rfl
      · rfl
      · intro w'; go_simp; first | done | exact ⟨rfl, rfl⟩ | with_reducible rfl
      intro w' hw'
      refine (ta_all b go L w' (P1.out.t.below hw')).mono ?_
      rintro e w5 ⟨h, rfl, hh, hrow, g5, ht5, hs5⟩
      have P2 := Lib.hid ((P1.out.up hw').one ht5 hs5)
      have R2 := Lib.hid hrow
      have k5 : Kept (PlS base b go r) w' w5 := hs5.k.wider (fun i _ h => Own.sub (NxB.refl _ _) h)
      clear ht5 hs5 hrow
      refine ⟨_, rfl, k5, ?_⟩
      have cz := fun w'' (h : Kept (PlS base b go r) w5 w'') => cy w'' ((Kept.of_ext hw').trans (k5.trans h))
      clear hw'
      simp only [Act.put, List.setIfInBounds_toArray, List.set_cons_zero, List.set_cons_succ]
      apply wpR_call 6 (some 90)
      · simp only [List.getElem?_toArray, List.getElem?_cons_succ, List.getElem?_cons_zero]; exact rfl
      · rfl
      · kernel_rfl
      · rfl
      · intro w'; go_simp; first | done | exact ⟨rfl, rfl⟩ | with_reducible rfl
      intro w' hw'
      have hI := ints_same (some ⟨h, 0, none⟩) (some ⟨r, 0, none⟩) L.length L.length L.length L.length L L w' (RdS.whole (R2.out.below hw')) (RdS.whole (P2.out.f.below hw').row) (by have := P2.out.t.len; omega)
      rw [show decide (L = L) = true from decide_eq_true rfl] at hI
      refine hI.mono ?_
      rintro e w6 ⟨rfl, hb6⟩
      have P3 := Lib.hid ((P2.out.up hw').up hb6)
      refine ⟨_, rfl, Kept.of_below hb6, ?_⟩
      clear hw'
      simp only [Act.put, List.setIfInBounds_toArray, List.set_cons_zero, List.set_cons_succ]
      apply wpR_next 7 (some 10)
      · simp only [List.getElem?_toArray, List.getElem?_cons_succ, List.getElem?_cons_zero]; exact rfl
      · rfl
      · kernel_rfl
      · kernel_rfl
      · kernel_rfl
      · exact fun _ _ _ _ h => h
      apply Exists.intro
      apply And.intro
      · apply yr_run; rfl; intro w' hw'; go_simp; (try with_reducible rfl)
      simp only [Act.put, List.setIfInBounds_toArray, List.set_cons_zero, List.set_cons_succ]
      refine wpR_done (by kernel_rfl) ?_ _
      intro w' hw'
      have P4 := Lib.hid (P3.out.up hw')
      clear cy cz hw'
      go_wp2_with (first
        | (go_at_call 22; refine (HSum.out _ _ _ _ (by exact P4.out.t)).mono ?_; rintro e w9 ⟨rfl, g9, ht9, hs9⟩; have P5 := Lib.hid (P4.out.one ht9 hs9); clear ht9 hs9)
        | (go_at_call 23; refine (HRSum.out _ _ _ _ (by exact P5.out.f)).mono ?_; rintro e w10 ⟨rfl, rfl⟩))
      go_ret
      exact ⟨rfl, P5.out.below⟩
end Go.Proofs.Ytgbkloilodgjfaa
