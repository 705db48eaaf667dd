/- TallyOrder's walk. -/
import Derived.Test.YtgbkloilodgjfaaTaM
import Derived.Deep.DeepCutAuto
import Derived.IntWalk
namespace Go.Proofs.Ytgbkloilodgjfaa
open Go.RowKit
set_option linter.unusedSimpArgs false

/-- What holds at each round's head. -/
def OrdAt (w : World) (a : Nat) (ga : Option Nat) (b : Nat) (gb : Option Nat) (l : List (Int × Int)) (m k : Nat) (s : Int) (x : World) : Prop :=
  Tw w a ga b gb (tl9 (l.take k)) (tl9 ((l.take m).drop (m - k))) x ∧ s = (tl9 (l.take k)).sum

theorem ord_sum_bd (l : List (Int × Int)) (k : Nat) (hk : k ≤ 60) : 0 ≤ (tl9 (l.take k)).sum ∧ (tl9 (l.take k)).sum ≤ 1000000 := by
  have h : ∀ j, 0 ≤ cntK j (l.take k) ∧ cntK j (l.take k) ≤ 59940 := fun j => by
    have := cntK_bd j (l.take k)
    have : (l.take k).length ≤ k := List.length_take_le _ _
    omega
  have h0 := h 0
  have h1 := h 1
  have h2 := h 2
  have h3 := h 3
  have h4 := h 4
  have h5 := h 5
  have h6 := h 6
  have h7 := h 7
  have h8 := h 8
  simp only [tl9, List.range, List.range.loop, List.map_cons, List.map_nil, List.sum_cons, List.sum_nil]
  omega
theorem tl9_len (l : List (Int × Int)) : (tl9 l).length = 9 := by simp [tl9]

theorem ord_end {w x : World} {a b : Nat} {ga gb : Option Nat} {l : List (Int × Int)} {m : Nat} {s : Int} (h : OrdAt w a ga b gb l m m s x) : Tw w a ga b gb (tl9 (l.take m)) (tl9 (l.take m)) x ∧ s = (tl9 (l.take m)).sum := by
  obtain ⟨h1, h2⟩ := h
  rw [Nat.sub_self, List.drop_zero] at h1
  exact ⟨h1, h2⟩

theorem ord_next {w x : World} {a b : Nat} {ga gb : Option Nat} {l : List (Int × Int)} {m k j : Nat} {s : Int} {p q : Int × Int} (hm : m ≤ 60) (hml : m ≤ l.length) (hk : k < m) (gp : l.getD k (0, 0) = p) (gj : m - 1 - k = j) (gq : l.getD j (0, 0) = q)
    (h : Tw w a ga b gb (addL (tl9 (l.take k)) p.1 (p.2.tmod 1000)) (addL (tl9 ((l.take m).drop (m - k))) q.1 (q.2.tmod 1000)) x) (hs : s = (tl9 (l.take (k + 1))).sum) : OrdAt w a ga b gb l m (k + 1) s x := by
  have e1 : (l.take m).drop (m - (k + 1)) = q :: (l.take m).drop (m - k) := by
    have hj : j < (l.take m).length := by simp; omega
    rw [show m - (k + 1) = j by omega, drop_consP _ _ hj, show j + 1 = m - k by omega]
    congr 1
    rw [← gq, List.getD_eq_getElem?_getD, List.getD_eq_getElem?_getD, List.getElem?_take, if_pos (by omega)]
  have e2 := take_snocP l k (by omega)
  rw [add_snoc _ _ (by have := List.length_take_le k l; omega), add_cons _ _ (by simp; omega), ← gp, ← e2, ← e1] at h
  exact ⟨h, hs⟩

set_option maxRecDepth 100000 in
set_option maxHeartbeats 4000000 in
theorem law_torder (A : Option Addr) (n c : Nat) (l : List (Int × Int)) (w : World) (hr : RdS w w.heap.size 2 A n c (pairsV l)) (hn : n ≤ maxLen) :
    Calls Try.prog 4 #[.slice A n c] w fun e w' => e = .returned (.bool true) ∧ Below w.heap.size w w' := by
  have H0 := Lib.hid ta_shown
  have HN := Lib.hid (ta_new 9)
  have HAll := Lib.hid (fun b g L W h => ta_all b g L W h)
  have HSum := Lib.hid (fun b g L W h => ta_sum b g L W h)
  have HR := Lib.hid hr
  have hl : l.length = n := by
    have := hr.len
    rw [pairsV_length] at this
    omega
  have HL := Lib.hid hl
  unfold maxLen at hn
  clear hr hl
  have tok1 : True := trivial
  go_enter Try.func4, Try.ntmps4
  go_upto_region 6 with (first
    | (go_at_call 12; refine (H0.out _).mono ?_; rintro e w1 ⟨rfl, hb1⟩; have HB1 := Lib.hid hb1; clear hb1)
    | (go_at_call 13; have _t := tok1; refine (HN.out _).mono ?_; rintro e w2 ⟨a, rfl, ha, ht, hb2⟩; have HB2 := Lib.hid hb2; have HTa := Lib.hid ht; clear hb2 ht tok1)
    | (go_at_call 13; refine (HN.out _).mono ?_; rintro e w3 ⟨b, rfl, hb, ht, hb3⟩; have HB3 := Lib.hid hb3; have HTb := Lib.hid ht; clear hb3 ht))
  obtain ⟨m, gm⟩ : ∃ m, min n 60 = m := ⟨_, rfl⟩
  have GM := Lib.hid gm
  have hm1 : m ≤ 60 := by omega
  have hm2 : m ≤ n := by omega
  have HP : RowKit.Hid (OrdAt w a none b none l m 0 0 w3) := by
    have h1 := HB1.out
    have h2 := HB2.out
    have h3 := HB3.out
    have s1 := h1.size
    have s2 := h2.size
    have hla := HTa.out.lt.1
    have e0 : tl9 (l.take 0) = List.replicate (kn 9) 0 := by rw [List.take_zero]; exact tl9_nil
    have e1 : tl9 ((l.take m).drop (m - 0)) = List.replicate (kn 9) 0 := by rw [Nat.sub_zero, List.drop_of_length_le (List.length_take_le _ _)]; exact tl9_nil
    unfold OrdAt
    rw [e0, e1]
    exact ⟨⟨HTa.out.below h3, HTb.out, by omega, .inl rfl, h1.trans ((h2.mono s1).trans (h3.mono (Nat.le_trans s1 s2))), Nat.le_trans s1 ha, by omega, fun g e => (by cases e), fun g e => (by cases e)⟩, by decide⟩
  clear HB1 HB2 HB3 HTa HTb ha hb gm
  go_cut [6] (fun v x => v = .int .i64 m ∧ x = w3)
  case first =>
    by_cases h60 : n ≤ 60
    · have hmm : n = m := by have := GM.out; omega
      have HMM := Lib.hid hmm
      have h60' : (n : Int) ≤ 60 := by omega
      clear hmm
      go_wp2
      go_meet
      exact ⟨by rw [HMM.out], rfl⟩
    · have hmm : 60 = m := by have := GM.out; omega
      have h60' : ¬ (n : Int) ≤ 60 := by omega
      have HMM := Lib.hid hmm
      clear hmm
      go_wp2
      go_meet
      exact ⟨by rw [← HMM.out]; rfl, rfl⟩
  case rest =>
  obtain ⟨rfl, rfl⟩ := hcut
  go_wp2
  go_loopw [7, 8] (fun sv i wr => ∃ (k : Nat) (s : Int) (ga gb : Option Nat), k ≤ m ∧ i = .int .i64 k ∧ sv = .int .i64 s ∧ OrdAt w a ga b gb l m k s wr) (fun _ i _ => m - (intOf i).toNat)
  case atStart => exact ⟨0, 0, none, none, Nat.zero_le _, rfl, rfl, HP.out⟩
  case round =>
    clear HP
    obtain ⟨k, s, ga, gb, hk, rfl, rfl, hp⟩ := hrel
    by_cases hlt : k < m
    · obtain ⟨ab, ao, rfl, hab, hac⟩ := HR.out.pairs (by omega)
      have HA := Lib.hid (hac k (by rw [HL.out]; omega))
      have HA2 := Lib.hid (hac (m - 1 - k) (by rw [HL.out]; omega))
      have hs := ord_sum_bd l k (by omega)
      rw [← hp.2] at hs
      obtain ⟨hs0, hs1⟩ := hs
      have HP := Lib.hid hp
      clear hac hp
      have hkn : k < n := by omega
      have hmn : m - 1 - k < n := by omega
      obtain ⟨p, gp⟩ : ∃ v, l.getD k (0, 0) = v := ⟨_, rfl⟩
      obtain ⟨q, gq⟩ : ∃ v, l.getD (m - 1 - k) (0, 0) = v := ⟨_, rfl⟩
      rw [gp] at HA
      rw [gq] at HA2
      have GP := Lib.hid gp
      have GQ := Lib.hid gq
      clear gp gq
      have T0 := HP.out.1.up ((Below.refl _ wr).drew)
      obtain ⟨base, gbase⟩ : ∃ x, wr.drew.heap.size = x := ⟨_, rfl⟩
      have GB := Lib.hid gbase
      clear gbase
      have c1 : ∀ w', Kept (TwS base a ga b gb) wr.drew w' → w'.cell? ⟨ab, ao + k * 2, none⟩ = some (.int .i64 p.1) := fun w' h => h.cell ((T0.below.cell hab).trans HA.out.1) (T0.far hab (by rw [← GB.out]; exact T0.below.size))
      have c2 : ∀ w', Kept (TwS base a ga b gb) wr.drew w' → w'.cell? ⟨ab, ao + k * 2 + 1, none⟩ = some (.int .i64 p.2) := fun w' h => h.cell ((T0.below.cell hab).trans HA.out.2) (T0.far hab (by rw [← GB.out]; exact T0.below.size))
      have TT := Lib.hid T0
      clear T0
      obtain ⟨ev, gev⟩ : ∃ v, addE (tl9 (l.take k)) p.1 (p.2.tmod 1000) = v := ⟨_, rfl⟩
      have GEV := Lib.hid gev
      clear gev
      have htm := tmod_bd p.2
      obtain ⟨htm1, htm2⟩ := htm
      go_upto_region 11 with fail
      refine wp_region_reg (TwS base a ga b gb) (by kernel_rfl) ?_
      apply wpR_next 0 (some 31)
      · simp only [List.getElem?_toArray, List.getElem?_cons_succ, List.getElem?_cons_zero]; exact rfl
      · rfl
      · kernel_rfl
      · kernel_rfl
      · kernel_rfl
      · exact fun _ _ _ _ h => h
      apply Exists.intro
      apply And.intro
      · apply yr_run; rfl; intro w' hw'; go_simp; (try with_reducible rfl)
      simp only [Act.put, List.setIfInBounds_toArray, List.set_cons_zero, List.set_cons_succ]
      apply wpR_next 1 (some 32)
      · simp only [List.getElem?_toArray, List.getElem?_cons_succ, List.getElem?_cons_zero]; exact rfl
      · rfl
      · kernel_rfl
      · kernel_rfl
      · kernel_rfl
      · exact fun _ _ _ _ h => h
      apply Exists.intro
      apply And.intro
      · apply yr_run; rfl; intro w' hw'; go_simp; (try with_reducible rfl)
      simp only [Act.put, List.setIfInBounds_toArray, List.set_cons_zero, List.set_cons_succ]
      apply wpR_next 2 (some 33)
      · simp only [List.getElem?_toArray, List.getElem?_cons_succ, List.getElem?_cons_zero]; exact rfl
      · rfl
      · kernel_rfl
      · kernel_rfl
      · kernel_rfl
      · exact fun _ _ _ _ h => h
      apply Exists.intro
      apply And.intro
      · apply yr_run; rfl; intro w' hw'; go_simp; (try with_reducible rfl)
      simp only [Act.put, List.setIfInBounds_toArray, List.set_cons_zero, List.set_cons_succ]
      apply wpR_next 3 (some 34)
      · simp only [List.getElem?_toArray, List.getElem?_cons_succ, List.getElem?_cons_zero]; exact rfl
      · rfl
      · kernel_rfl
      · kernel_rfl
      · kernel_rfl
      · exact fun _ _ _ _ h => h
      apply Exists.intro
      apply And.intro
      · apply yr_run; rfl; intro w' hw'; go_simp; (try with_reducible rfl)
      simp only [Act.put, List.setIfInBounds_toArray, List.set_cons_zero, List.set_cons_succ]
      apply wpR_next 4 (some 35)
      · simp only [List.getElem?_toArray, List.getElem?_cons_succ, List.getElem?_cons_zero]; exact rfl
      · rfl
      · kernel_rfl
      · kernel_rfl
      · kernel_rfl
      · exact fun _ _ _ _ h => h
      apply Exists.intro
      apply And.intro
      · apply yr_run; rfl; intro w' hw'; go_simp; (try with_reducible rfl)
      simp only [Act.put, List.setIfInBounds_toArray, List.set_cons_zero, List.set_cons_succ]
      apply wpR_next 5 (some 36)
      · simp only [List.getElem?_toArray, List.getElem?_cons_succ, List.getElem?_cons_zero]; exact rfl
      · rfl
      · kernel_rfl
      · kernel_rfl
      · kernel_rfl
      · exact fun _ _ _ _ h => h
      apply Exists.intro
      apply And.intro
      · apply yr_run; rfl; intro w' hw'; go_simp; (try with_reducible rfl)
      simp only [Act.put, List.setIfInBounds_toArray, List.set_cons_zero, List.set_cons_succ]
      apply wpR_next 6 (some 37)
      · simp only [List.getElem?_toArray, List.getElem?_cons_succ, List.getElem?_cons_zero]; exact rfl
      · rfl
      · kernel_rfl
      · kernel_rfl
      · kernel_rfl
      · exact fun _ _ _ _ h => h
      apply Exists.intro
      apply And.intro
      · apply yr_run; rfl; intro w' hw'; go_simp; (try with_reducible rfl)
      simp only [Act.put, List.setIfInBounds_toArray, List.set_cons_zero, List.set_cons_succ]
      apply wpR_next 7 (some 38)
      · simp only [List.getElem?_toArray, List.getElem?_cons_succ, List.getElem?_cons_zero]; exact rfl
      · rfl
      · kernel_rfl
      · kernel_rfl
      · kernel_rfl
      · exact fun _ _ _ _ h => h
      apply Exists.intro
      apply And.intro
      · apply yr_run; rfl; intro w' hw'; go_simp; (try with_reducible rfl)
      simp only [Act.put, List.setIfInBounds_toArray, List.set_cons_zero, List.set_cons_succ]
      apply wpR_next 8 (some 39)
      · simp only [List.getElem?_toArray, List.getElem?_cons_succ, List.getElem?_cons_zero]; exact rfl
      · rfl
      · kernel_rfl
      · kernel_rfl
      · kernel_rfl
      · exact fun _ _ _ _ h => h
      apply Exists.intro
      apply And.intro
      · apply yr_run; rfl; intro w' hw'; go_simp; (try with_reducible rfl)
      simp only [Act.put, List.setIfInBounds_toArray, List.set_cons_zero, List.set_cons_succ]
      apply wpR_next 9 (some 40)
      · simp only [List.getElem?_toArray, List.getElem?_cons_succ, List.getElem?_cons_zero]; exact rfl
      · rfl
      · kernel_rfl
      · kernel_rfl
      · kernel_rfl
      · exact fun _ _ _ _ h => h
      apply Exists.intro
      apply And.intro
      · apply yr_run; rfl; intro w' hw'; go_simp; (try with_reducible rfl)
      simp only [Act.put, List.setIfInBounds_toArray, List.set_cons_zero, List.set_cons_succ]
      apply wpR_next 10 (some 41)
      · simp only [List.getElem?_toArray, List.getElem?_cons_succ, List.getElem?_cons_zero]; exact rfl
      · rfl
      · kernel_rfl
      · kernel_rfl
      · kernel_rfl
      · exact fun _ _ _ _ h => h
      apply Exists.intro
      apply And.intro
      · apply yr_run; rfl; intro w' hw'; go_simp; (try with_reducible rfl)
      simp only [Act.put, List.setIfInBounds_toArray, List.set_cons_zero, List.set_cons_succ]
      apply wpR_next 11 (some 42)
      · simp only [List.getElem?_toArray, List.getElem?_cons_succ, List.getElem?_cons_zero]; exact rfl
      · rfl
      · kernel_rfl
      · kernel_rfl
      · kernel_rfl
      · exact fun _ _ _ _ h => h
      apply Exists.intro
      apply And.intro
      · apply yr_run; rfl; intro w' hw'; go_simp; (try with_reducible rfl)
      simp only [Act.put, List.setIfInBounds_toArray, List.set_cons_zero, List.set_cons_succ]
      apply wpR_call 12 (some 43)
      · simp only [List.getElem?_toArray, List.getElem?_cons_succ, List.getElem?_cons_zero]; exact rfl
      · rfl
      · kernel_rfl
      · rfl
      · intro w'; go_simp; first | done | exact ⟨rfl, rfl⟩ | with_reducible rfl
      intro w' hw'
      refine (ta_add a ga _ p.1 (p.2.tmod 1000) w' (TT.out.ta.below hw')).mono ?_
      rintro e w5 ⟨rfl, ga1, ht5, hs5⟩
      rw [GEV.out]
      have P1 := Lib.hid ((TT.out.up hw').one ht5 hs5)
      have k5 : Kept (TwS base a ga b gb) w' w5 := hs5.k.wider (fun i _ h => Own.tw1 h)
      clear ht5 hs5
      refine ⟨_, rfl, k5, ?_⟩
      clear hw'
      simp only [Act.put, List.setIfInBounds_toArray, List.set_cons_zero, List.set_cons_succ]
      apply wpR_next 13 (some 44)
      · simp only [List.getElem?_toArray, List.getElem?_cons_succ, List.getElem?_cons_zero]; exact rfl
      · rfl
      · kernel_rfl
      · kernel_rfl
      · kernel_rfl
      · exact fun _ _ _ _ h => h
      apply Exists.intro
      apply And.intro
      · apply yr_run; rfl; intro w' hw'; go_simp; (try with_reducible rfl)
      simp only [Act.put, List.setIfInBounds_toArray, List.set_cons_zero, List.set_cons_succ]
      refine wpR_done (by kernel_rfl) ?_ _
      intro w' hw'
      have P2 := Lib.hid (P1.out.up hw')
      have d1 := (P2.out.below.cell hab (p := ⟨ab, ao + k * 2 + 1, none⟩)).trans HA.out.2
      clear hw'
      go_upto_if 44 with fail
      go_cut [7] (fun sv x => ∃ s', sv = .int .i64 s' ∧ s' = (tl9 (l.take (k + 1))).sum ∧ x = w')
      case first =>
        have hfin : (tl9 (l.take (k + 1))).sum = s + if ev = 0 then p.2.tmod 1000 else 0 := by
          rw [take_snocP l k (by rw [HL.out]; omega), GP.out, ← add_snoc _ _ (by have := List.length_take_le k l; omega), add_sum, GEV.out, HP.out.2]
        have HFin := Lib.hid hfin
        clear hfin
        by_cases he : ev = 0
        · have he' : (ev == 0) = true := by simpa using he
          have HE := Lib.hid he
          clear he
          go_wp2
          go_meet
          exact ⟨_, rfl, by rw [HFin.out, if_pos HE.out], rfl⟩
        · have he' : (ev == 0) = false := by simpa using he
          go_wp2
          go_meet
          exact ⟨_, rfl, by rw [HFin.out, if_neg he]; omega, rfl⟩
      case rest =>
      obtain ⟨s', rfl, hs', rfl⟩ := hcut
      have HS' := Lib.hid hs'
      clear hs' d1
      obtain ⟨m1, gm1⟩ : ∃ v, m - 1 = v := ⟨_, rfl⟩
      obtain ⟨j, gj⟩ : ∃ v, m - 1 - k = v := ⟨_, rfl⟩
      have i1 : IntKind.i64.wrap ((m : Int) - 1) = (m1 : Int) := (IntWalk.i64_in _ (by omega)).trans (by omega)
      have i2 : IntKind.i64.wrap ((m1 : Int) - (k : Int)) = (j : Int) := (IntWalk.i64_in _ (by omega)).trans (by omega)
      have hjn : j < n := by omega
      rw [gj] at HA2 GQ
      have GJ := Lib.hid gj
      clear gm1 gj hmn
      have T0 := P2.out.up ((Below.refl _ wc).drew)
      obtain ⟨base, gbase⟩ : ∃ x, wc.drew.heap.size = x := ⟨_, rfl⟩
      have GB := Lib.hid gbase
      clear gbase
      have e1 : ∀ w', Kept (TwS base a ga1 b gb) wc.drew w' → w'.cell? ⟨ab, ao + j * 2, none⟩ = some (.int .i64 q.1) := fun w' h => h.cell ((T0.below.cell hab).trans HA2.out.1) (T0.far hab (by rw [← GB.out]; exact T0.below.size))
      have e2 : ∀ w', Kept (TwS base a ga1 b gb) wc.drew w' → w'.cell? ⟨ab, ao + j * 2 + 1, none⟩ = some (.int .i64 q.2) := fun w' h => h.cell ((T0.below.cell hab).trans HA2.out.2) (T0.far hab (by rw [← GB.out]; exact T0.below.size))
      have TT := Lib.hid T0
      clear T0
      have htq := tmod_bd q.2
      obtain ⟨htq1, htq2⟩ := htq
      go_upto_region 13 with fail
      refine wp_region_reg (TwS base a ga1 b gb) (by kernel_rfl) ?_
      apply wpR_next 0 (some 53)
      · simp only [List.getElem?_toArray, List.getElem?_cons_succ, List.getElem?_cons_zero]; exact rfl
      · rfl
      · kernel_rfl
      · kernel_rfl
      · kernel_rfl
      · exact fun _ _ _ _ h => h
      apply Exists.intro
      apply And.intro
      · apply yr_run; rfl; intro w' hw'; go_simp; (try with_reducible rfl)
      simp only [Act.put, List.setIfInBounds_toArray, List.set_cons_zero, List.set_cons_succ]
      apply wpR_next 1 (some 54)
      · simp only [List.getElem?_toArray, List.getElem?_cons_succ, List.getElem?_cons_zero]; exact rfl
      · rfl
      · kernel_rfl
      · kernel_rfl
      · kernel_rfl
      · exact fun _ _ _ _ h => h
      apply Exists.intro
      apply And.intro
      · apply yr_run; rfl; intro w' hw'; go_simp; (try with_reducible rfl)
      simp only [Act.put, List.setIfInBounds_toArray, List.set_cons_zero, List.set_cons_succ]
      apply wpR_next 2 (some 55)
      · simp only [List.getElem?_toArray, List.getElem?_cons_succ, List.getElem?_cons_zero]; exact rfl
      · rfl
      · kernel_rfl
      · kernel_rfl
      · kernel_rfl
      · exact fun _ _ _ _ h => h
      apply Exists.intro
      apply And.intro
      · apply yr_run; rfl; intro w' hw'; go_simp; (try with_reducible rfl)
      simp only [Act.put, List.setIfInBounds_toArray, List.set_cons_zero, List.set_cons_succ]
      apply wpR_next 3 (some 56)
      · simp only [List.getElem?_toArray, List.getElem?_cons_succ, List.getElem?_cons_zero]; exact rfl
      · rfl
      · kernel_rfl
      · kernel_rfl
      · kernel_rfl
      · exact fun _ _ _ _ h => h
      apply Exists.intro
      apply And.intro
      · apply yr_run; rfl; intro w' hw'; go_simp; (try with_reducible rfl)
      simp only [Act.put, List.setIfInBounds_toArray, List.set_cons_zero, List.set_cons_succ]
      apply wpR_next 4 (some 57)
      · simp only [List.getElem?_toArray, List.getElem?_cons_succ, List.getElem?_cons_zero]; exact rfl
      · rfl
      · kernel_rfl
      · kernel_rfl
      · kernel_rfl
      · exact fun _ _ _ _ h => h
      apply Exists.intro
      apply And.intro
      · apply yr_run; rfl; intro w' hw'; go_simp; (try with_reducible rfl)
      simp only [Act.put, List.setIfInBounds_toArray, List.set_cons_zero, List.set_cons_succ]
      apply wpR_next 5 (some 58)
      · simp only [List.getElem?_toArray, List.getElem?_cons_succ, List.getElem?_cons_zero]; exact rfl
      · rfl
      · kernel_rfl
      · kernel_rfl
      · kernel_rfl
      · exact fun _ _ _ _ h => h
      apply Exists.intro
      apply And.intro
      · apply yr_run; rfl; intro w' hw'; go_simp; (try with_reducible rfl)
      simp only [Act.put, List.setIfInBounds_toArray, List.set_cons_zero, List.set_cons_succ]
      apply wpR_next 6 (some 59)
      · simp only [List.getElem?_toArray, List.getElem?_cons_succ, List.getElem?_cons_zero]; exact rfl
      · rfl
      · kernel_rfl
      · kernel_rfl
      · kernel_rfl
      · exact fun _ _ _ _ h => h
      apply Exists.intro
      apply And.intro
      · apply yr_run; rfl; intro w' hw'; go_simp; (try with_reducible rfl)
      simp only [Act.put, List.setIfInBounds_toArray, List.set_cons_zero, List.set_cons_succ]
      apply wpR_next 7 (some 60)
      · simp only [List.getElem?_toArray, List.getElem?_cons_succ, List.getElem?_cons_zero]; exact rfl
      · rfl
      · kernel_rfl
      · kernel_rfl
      · kernel_rfl
      · exact fun _ _ _ _ h => h
      apply Exists.intro
      apply And.intro
      · apply yr_run; rfl; intro w' hw'; go_simp; (try with_reducible rfl)
      simp only [Act.put, List.setIfInBounds_toArray, List.set_cons_zero, List.set_cons_succ]
      apply wpR_next 8 (some 61)
      · simp only [List.getElem?_toArray, List.getElem?_cons_succ, List.getElem?_cons_zero]; exact rfl
      · rfl
      · kernel_rfl
      · kernel_rfl
      · kernel_rfl
      · exact fun _ _ _ _ h => h
      apply Exists.intro
      apply And.intro
      · apply yr_run; rfl; intro w' hw'; go_simp; (try with_reducible rfl)
      simp only [Act.put, List.setIfInBounds_toArray, List.set_cons_zero, List.set_cons_succ]
      apply wpR_next 9 (some 62)
      · simp only [List.getElem?_toArray, List.getElem?_cons_succ, List.getElem?_cons_zero]; exact rfl
      · rfl
      · kernel_rfl
      · kernel_rfl
      · kernel_rfl
      · exact fun _ _ _ _ h => h
      apply Exists.intro
      apply And.intro
      · apply yr_run; rfl; intro w' hw'; go_simp; (try with_reducible rfl)
      simp only [Act.put, List.setIfInBounds_toArray, List.set_cons_zero, List.set_cons_succ]
      apply wpR_next 10 (some 63)
      · simp only [List.getElem?_toArray, List.getElem?_cons_succ, List.getElem?_cons_zero]; exact rfl
      · rfl
      · kernel_rfl
      · kernel_rfl
      · kernel_rfl
      · exact fun _ _ _ _ h => h
      apply Exists.intro
      apply And.intro
      · apply yr_run; rfl; intro w' hw'; go_simp; (try with_reducible rfl)
      simp only [Act.put, List.setIfInBounds_toArray, List.set_cons_zero, List.set_cons_succ]
      apply wpR_next 11 (some 64)
      · simp only [List.getElem?_toArray, List.getElem?_cons_succ, List.getElem?_cons_zero]; exact rfl
      · rfl
      · kernel_rfl
      · kernel_rfl
      · kernel_rfl
      · exact fun _ _ _ _ h => h
      apply Exists.intro
      apply And.intro
      · apply yr_run; rfl; intro w' hw'; go_simp; (try with_reducible rfl)
      simp only [Act.put, List.setIfInBounds_toArray, List.set_cons_zero, List.set_cons_succ]
      apply wpR_next 12 (some 65)
      · simp only [List.getElem?_toArray, List.getElem?_cons_succ, List.getElem?_cons_zero]; exact rfl
      · rfl
      · kernel_rfl
      · kernel_rfl
      · kernel_rfl
      · exact fun _ _ _ _ h => h
      apply Exists.intro
      apply And.intro
      · apply yr_run; rfl; intro w' hw'; go_simp; (try with_reducible rfl)
      simp only [Act.put, List.setIfInBounds_toArray, List.set_cons_zero, List.set_cons_succ]
      apply wpR_next 13 (some 66)
      · simp only [List.getElem?_toArray, List.getElem?_cons_succ, List.getElem?_cons_zero]; exact rfl
      · rfl
      · kernel_rfl
      · kernel_rfl
      · kernel_rfl
      · exact fun _ _ _ _ h => h
      apply Exists.intro
      apply And.intro
      · apply yr_run; rfl; intro w' hw'; go_simp; (try with_reducible rfl)
      simp only [Act.put, List.setIfInBounds_toArray, List.set_cons_zero, List.set_cons_succ]
      apply wpR_next 14 (some 67)
      · simp only [List.getElem?_toArray, List.getElem?_cons_succ, List.getElem?_cons_zero]; exact rfl
      · rfl
      · kernel_rfl
      · kernel_rfl
      · kernel_rfl
      · exact fun _ _ _ _ h => h
      apply Exists.intro
      apply And.intro
      · apply yr_run; rfl; intro w' hw'; go_simp; (try with_reducible rfl)
      simp only [Act.put, List.setIfInBounds_toArray, List.set_cons_zero, List.set_cons_succ]
      apply wpR_next 15 (some 68)
      · simp only [List.getElem?_toArray, List.getElem?_cons_succ, List.getElem?_cons_zero]; exact rfl
      · rfl
      · kernel_rfl
      · kernel_rfl
      · kernel_rfl
      · exact fun _ _ _ _ h => h
      apply Exists.intro
      apply And.intro
      · apply yr_run; rfl; intro w' hw'; go_simp; (try with_reducible rfl)
      simp only [Act.put, List.setIfInBounds_toArray, List.set_cons_zero, List.set_cons_succ]
      apply wpR_next 16 (some 69)
      · simp only [List.getElem?_toArray, List.getElem?_cons_succ, List.getElem?_cons_zero]; exact rfl
      · rfl
      · kernel_rfl
      · kernel_rfl
      · kernel_rfl
      · exact fun _ _ _ _ h => h
      apply Exists.intro
      apply And.intro
      · apply yr_run; rfl; intro w' hw'; go_simp; (try with_reducible rfl)
      simp only [Act.put, List.setIfInBounds_toArray, List.set_cons_zero, List.set_cons_succ]
      apply wpR_next 17 (some 70)
      · simp only [List.getElem?_toArray, List.getElem?_cons_succ, List.getElem?_cons_zero]; exact rfl
      · rfl
      · kernel_rfl
      · kernel_rfl
      · kernel_rfl
      · exact fun _ _ _ _ h => h
      apply Exists.intro
      apply And.intro
      · apply yr_run; rfl; intro w' hw'; go_simp; (try with_reducible rfl)
      simp only [Act.put, List.setIfInBounds_toArray, List.set_cons_zero, List.set_cons_succ]
      apply wpR_call 18 (some 71)
      · simp only [List.getElem?_toArray, List.getElem?_cons_succ, List.getElem?_cons_zero]; exact rfl
      · rfl
      · kernel_rfl
      · rfl
      · intro w'; go_simp; first | done | exact ⟨rfl, rfl⟩ | with_reducible rfl
      intro w' hw'
      refine (ta_add b gb _ q.1 (q.2.tmod 1000) w' (TT.out.tb.below hw')).mono ?_
      rintro e w6 ⟨rfl, gb1, ht6, hs6⟩
      have P3 := Lib.hid ((TT.out.up hw').two ht6 hs6)
      have k6 : Kept (TwS base a ga1 b gb) w' w6 := hs6.k.wider (fun i _ h => Own.tw2 h)
      clear ht6 hs6
      refine ⟨_, rfl, k6, ?_⟩
      clear hw'
      simp only [Act.put, List.setIfInBounds_toArray, List.set_cons_zero, List.set_cons_succ]
      refine wpR_done (by kernel_rfl) ?_ _
      intro w' hw'
      have P4 := Lib.hid (P3.out.up hw')
      clear hw'
      have PE := Lib.hid (ord_next hm1 (by rw [HL.out]; exact hm2) hlt GP.out GJ.out GQ.out P4.out HS'.out)
      go_wp2
      go_roundw
      case rel => exact ⟨k + 1, s', ga1, gb1, by omega, by go_num, rfl, PE.out⟩
      case measure => simp [intOf]; omega
    · have hkm : k = m := by omega
      have hlt' : ¬ (k : Int) < (m : Int) := by omega
      rw [hkm] at hp
      obtain ⟨hP, hs⟩ := ord_end hp
      clear hp hkm
      have HS := Lib.hid hs
      have hn9 := tl9_len (l.take m)
      obtain ⟨L, gL⟩ : ∃ v, tl9 (l.take m) = v := ⟨_, rfl⟩
      rw [gL] at hP HS hn9
      have P0 := Lib.hid hP
      have H9 := Lib.hid hn9
      have HI := Lib.hid (fun h1 h2 W r1 r2 => ints_refl h1 h2 L (by rw [hn9]; decide) W r1 r2)
      clear hP hs gL hn9
      have tokA : True := trivial
      have tokB : True := trivial
      have tokS : True := trivial
      go_wp2_with (first
        | (go_at_call 21; have _t := tokA; refine (HAll.out _ _ _ _ (by exact P0.out.ta)).mono ?_; rintro e w5 ⟨h1, rfl, hh1, hr1, g5, ht5, hs5⟩; have P1 := Lib.hid (P0.out.one ht5 hs5); have R1 := Lib.hid hr1; clear hr1 ht5 hs5 tokA)
        | (go_at_call 21; have _t := tokB; refine (HAll.out _ _ _ _ (by exact P1.out.tb)).mono ?_; rintro e w6 ⟨h2, rfl, hh2, hr2, g6, ht6, hs6⟩; have P2 := Lib.hid (P1.out.two ht6 hs6); have R2 := Lib.hid hr2; have R3 := Lib.hid (hs6.k.whole R1.out (P1.out.tb.own R1.out (by decide) (by decide))); clear hr2 ht6 hs6 tokB)
        | (go_at_call 20; refine (HI.out _ _ _ (by exact R3.out) (by exact R2.out)).mono ?_; rintro e w7 ⟨rfl, hb7⟩; have P3 := Lib.hid (P2.out.up hb7); clear hb7)
        | (go_at_call 22; have _t := tokS; refine (HSum.out _ _ _ _ (by exact P3.out.ta)).mono ?_; rintro e w8 ⟨he, g8, ht8, hs8⟩; rw [← HS.out] at he; subst he; have P4 := Lib.hid (P3.out.one ht8 hs8); clear ht8 hs8 tokS)
        | (go_at_call 22; refine (HSum.out _ _ _ _ (by exact P4.out.tb)).mono ?_; rintro e w9 ⟨he, g9, ht9, hs9⟩; rw [← HS.out] at he; subst he; have P5 := Lib.hid (P4.out.two ht9 hs9); clear ht9 hs9)
        | (go_at_call 21; refine (HAll.out _ _ _ _ (by exact P5.out.ta)).mono ?_; rintro e w10 ⟨h3, rfl, hh3, hr3, g10, ht10, hs10⟩; rw [H9.out]; have P6 := Lib.hid (P5.out.one ht10 hs10); clear hr3 ht10 hs10))
      go_ret
      exact ⟨rfl, P6.out.below⟩
end Go.Proofs.Ytgbkloilodgjfaa
