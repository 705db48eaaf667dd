/- The law FrameShort. -/
import Derived.Test.YtgmjehejaailpaaFr20
namespace Go.Proofs.Ytgmjehejaailpaa
open Go.RowKit
set_option linter.unusedSimpArgs false
set_option linter.unusedVariables false

set_option maxRecDepth 100000 in
set_option maxHeartbeats 4000000 in
theorem short_not (f : FrT) (A : Option Addr) (n c : Nat) (L : List Nat) (A2 : Option Addr) (n2 c2 : Nat) (L2 : List Nat) (w : World) (h : RdS w w.heap.size 1 A n c (rowsV f8 L)) (hb : ∀ b ∈ L, b < 256) (hn : n ≤ maxLen) (h2 : RdS w w.heap.size 1 A2 n2 c2 (rowsV f8 L2)) (hz : mayF f (L.take 16400).length ≠ 0) :
    Calls Try.prog 8 #[.agg #[.int .i64 f.k, .int .i64 f.fr, .int .i64 f.tt, .int .i64 f.ep, .int .i64 f.sq, .int .i64 f.ac, .slice A n c], .slice A2 n2 c2] w fun e w' => e = .returned (.bool true) ∧ Below w.heap.size w w' := by
  have hl := h.rlen f8_len (by decide)
  obtain ⟨M, gM⟩ : ∃ x, L.take 16400 = x := ⟨_, rfl⟩
  have hF := few15 f A n c L
  have hRM := h.fewer8 16400
  rw [gM] at hF hRM
  have HbM : RowKit.Hid (∀ b ∈ M, b < 256) := Lib.hid (gM ▸ fun b h => hb b (List.mem_of_mem_take h))
  have hM16 : M.length ≤ 16400 := by rw [← gM, List.length_take]; omega
  have HF : RowKit.Hid _ := Lib.hid (fun w' (h' : RdS w' w'.heap.size 1 A n c (rowsV f8 L)) => hF w' h' hn)
  have RM := Lib.hid hRM
  have LM : RowKit.Hid (∀ a, A = some a → 0 < M.length → a.block < w.heap.size) := Lib.hid hRM.low
  have RL := Lib.hid h
  have LL : RowKit.Hid (∀ a, A = some a → 0 < n → a.block < w.heap.size) := Lib.hid h.low
  clear hF hRM h hb hn hl
  rw [gM] at hz
  try rw [gM] at hM
  have hl2 := h2.rlen f8_len (by decide)
  have hcc2 := h2.le
  obtain ⟨K, gK⟩ : ∃ x, L2.take 18 = x := ⟨_, rfl⟩
  have hRK := h2.fewer8 18
  rw [gK] at hRK
  have hK18 : K.length ≤ 18 := by rw [← gK, List.length_take]; omega
  have hKn : K.length = min 18 n2 := by rw [← gK, List.length_take, hl2]
  have HKn := Lib.hid hKn
  have RK := Lib.hid hRK
  have LK : RowKit.Hid (∀ a, A2 = some a → 0 < K.length → a.block < w.heap.size) := Lib.hid hRK.low
  have hPo := fun W => put_not f A M.length c W hz
  obtain ⟨z, gz⟩ : ∃ x, mayF f M.length = x := ⟨_, rfl⟩
  rw [gz] at hPo hz
  have q : (z == 0) = false := beq_eq_false_iff_ne.2 hz
  have q' : (z != 0) = true := bne_iff_ne.2 hz
  have HPo := Lib.hid hPo
  clear gz hz hPo
  obtain ⟨i0, hi, hz0, hz1, hz2⟩ := info_parts_ info_u8
  clear gM hKn gK hRK hl2 h2
  unfold frCells at HF
  go_enter Try.func8, Try.ntmps8
  go_wp2_with fail
  refine (shown15 _).mono ?_
  rintro e w1 ⟨rfl, hb1⟩
  have RL_2 := Lib.hid ((RL.out.al (.cells #[.int .i64 f.k, .int .i64 f.fr, .int .i64 f.tt, .int .i64 f.ep, .int .i64 f.sq, .int .i64 f.ac, .slice A n c] 24)).bl hb1)
  have RM_2 := Lib.hid ((RM.out.al (.cells #[.int .i64 f.k, .int .i64 f.fr, .int .i64 f.tt, .int .i64 f.ep, .int .i64 f.sq, .int .i64 f.ac, .slice A n c] 24)).bl hb1)
  have RK_2 := Lib.hid ((RK.out.al (.cells #[.int .i64 f.k, .int .i64 f.fr, .int .i64 f.tt, .int .i64 f.ep, .int .i64 f.sq, .int .i64 f.ac, .slice A n c] 24)).bl hb1)
  have F_2 := Lib.hid ((show Whole (w.alloc (.cells #[.int .i64 f.k, .int .i64 f.fr, .int .i64 f.tt, .int .i64 f.ep, .int .i64 f.sq, .int .i64 f.ac, .slice A n c] 24)) (w.heap.size) (24) ([.int .i64 f.k, .int .i64 f.fr, .int .i64 f.tt, .int .i64 f.ep, .int .i64 f.sq, .int .i64 f.ac, .slice A n c]) from Whole.new2 (by first | rfl | simp)).bl hb1)
  have Bel_2 := Lib.hid (bel_bl (bel_al (Below.refl _ w) (.cells #[.int .i64 f.k, .int .i64 f.fr, .int .i64 f.tt, .int .i64 f.ep, .int .i64 f.sq, .int .i64 f.ac, .slice A n c] 24)) hb1)
  clear hb1
  have LO_F_3 : RowKit.Hid (w.heap.size ≤ w.heap.size) := Lib.hid (by omega)
  go_upto_region 2 with fail
  refine wp_region_lit ?_
  refine wpList_load_row rfl 24 (.tmp 2) rfl w.heap.size rfl 24 #[.int .i64 f.k, .int .i64 f.fr, .int .i64 f.tt, .int .i64 f.ep, .int .i64 f.sq, .int .i64 f.ac, .slice A n c] (0, 0) _ (F_2.out) Try.underlying24 rfl (by kernel_rfl) ?_
  simp only [Act.put, List.setIfInBounds_toArray, List.set_cons_zero, List.set_cons_succ]
  go_wp2_with fail
  refine (HF.out _ RL_2.out).mono ?_
  rintro e w4 ⟨rfl, hb4⟩
  have RL_5 := Lib.hid (RL_2.out.bl hb4)
  have RM_5 := Lib.hid (RM_2.out.bl hb4)
  have RK_5 := Lib.hid (RK_2.out.bl hb4)
  have F_5 := Lib.hid (F_2.out.bl hb4)
  have Bel_5 := Lib.hid (bel_bl Bel_2.out hb4)
  clear hb4
  rename_i hK
  refine hK _ _ ?_
  clear hK
  refine wpList_store_row rfl 24 (.tmp 2) (.tmp 16) rfl w.heap.size #[.int .i64 f.k, .int .i64 f.fr, .int .i64 f.tt, .int .i64 f.ep, .int .i64 f.sq, .int .i64 f.ac, .slice A M.length c] rfl rfl 24 #[.int .i64 f.k, .int .i64 f.fr, .int .i64 f.tt, .int .i64 f.ep, .int .i64 f.sq, .int .i64 f.ac, .slice A n c] (F_5.out) (by kernel_rfl) rfl (by simp [Value.oneCell']) ?_
  obtain ⟨v6, gv6⟩ : ∃ x, w4.setRow w.heap.size #[.int .i64 f.k, .int .i64 f.fr, .int .i64 f.tt, .int .i64 f.ep, .int .i64 f.sq, .int .i64 f.ac, .slice A M.length c] = x := ⟨_, rfl⟩
  have RL_6 := Lib.hid (show RdS v6 v6.heap.size _ _ _ _ _ from gv6 ▸ RdS.row_far RL_5.out (g := w.heap.size) (fun a ha hn e => by have h1 := LL.out a ha hn; have h2 := LO_F_3.out; have h3 := Option.some.inj e; omega) #[.int .i64 f.k, .int .i64 f.fr, .int .i64 f.tt, .int .i64 f.ep, .int .i64 f.sq, .int .i64 f.ac, .slice A M.length c])
  have RM_6 := Lib.hid (show RdS v6 v6.heap.size _ _ _ _ _ from gv6 ▸ RdS.row_far RM_5.out (g := w.heap.size) (fun a ha hn e => by have h1 := LM.out a ha hn; have h2 := LO_F_3.out; have h3 := Option.some.inj e; omega) #[.int .i64 f.k, .int .i64 f.fr, .int .i64 f.tt, .int .i64 f.ep, .int .i64 f.sq, .int .i64 f.ac, .slice A M.length c])
  have RK_6 := Lib.hid (show RdS v6 v6.heap.size _ _ _ _ _ from gv6 ▸ RdS.row_far RK_5.out (g := w.heap.size) (fun a ha hn e => by have h1 := LK.out a ha hn; have h2 := LO_F_3.out; have h3 := Option.some.inj e; omega) #[.int .i64 f.k, .int .i64 f.fr, .int .i64 f.tt, .int .i64 f.ep, .int .i64 f.sq, .int .i64 f.ac, .slice A M.length c])
  have F_6 : RowKit.Hid (Whole v6 w.heap.size 24 [.int .i64 f.k, .int .i64 f.fr, .int .i64 f.tt, .int .i64 f.ep, .int .i64 f.sq, .int .i64 f.ac, .slice A M.length c]) := Lib.hid (gv6 ▸ Whole.row F_5.out [.int .i64 f.k, .int .i64 f.fr, .int .i64 f.tt, .int .i64 f.ep, .int .i64 f.sq, .int .i64 f.ac, .slice A M.length c])
  have Bel_6 : RowKit.Hid (Below w.heap.size w v6) := Lib.hid (gv6 ▸ below_row Bel_5.out LO_F_3.out _)
  rw [gv6]
  clear gv6
  clear HF
  go_upto_if 19 with fail
  go_cut [1] (fun v x => v = .slice A2 K.length c2 ∧ x = v6)
  case first =>
    by_cases h18 : 18 < n2
    · have ht : (18 : Int) < n2 := by omega
      have h18c : 18 ≤ c2 := by omega
      have hk : K.length = 18 := by have := HKn.out; omega
      go_wp2_with fail
      go_meet
      exact ⟨by rw [hk], rfl⟩
    · have ht : ¬ (18 : Int) < n2 := by omega
      have hk : K.length = n2 := by have := HKn.out; omega
      go_wp2_with fail
      go_meet
      exact ⟨by rw [hk], rfl⟩
  case rest =>
    obtain ⟨rfl, hcut2⟩ := hcut
    subst hcut2
    go_upto_region 5 with fail
    clear hcc2 HKn
    have RKa := Lib.hid (RK_6.out.al (.cells #[] 5))
    go_wp2_with (first
      | (at_builtin
         refine wpList_push2 rfl (.tmp 23) (.tmp 24) _ rfl _ 5 i0 _ 1 1 Try.underlying22 hi hz0 hz1 hz2 rfl (by decide) _ _ _ rfl (Ow.new_ (cs := #[]) (Below.refl _ _) (Nat.le_refl _) (Nat.le_refl _) (Nat.zero_le _) rfl) _ _ _ _ _ rfl (RKa.out) (f8_all _) (by unfold maxLen; omega) (by omega) ?_
         intro v1 wp1 how1 hb1 hgr
         rw [Nat.zero_add, List.nil_append] at how1
         obtain ⟨Ap1, cp1, rfl, hr1⟩ := how1.rds
         have HOW1 := Lib.hid how1
         have HRP1 := Lib.hid hr1
         clear how1 hb1 hgr hr1))
    have RM_7 := Lib.hid (RM_6.out.bl HOW1.out.below)
    have RK_7 := Lib.hid (RK_6.out.bl HOW1.out.below)
    have F_7 := Lib.hid (F_6.out.bl HOW1.out.below)
    have Bel_7 := Lib.hid (bel_bl Bel_6.out HOW1.out.below)
    refine (take_a Ap1 K.length cp1 K wp1 HRP1.out (by unfold maxLen; omega) (by omega)).mono ?_
    rintro e wp2 ⟨rfl, hb2⟩
    have RM_8 := Lib.hid (RM_7.out.bl hb2)
    have F_8 := Lib.hid (F_7.out.bl hb2)
    have Bel_8 := Lib.hid (bel_bl Bel_7.out hb2)
    clear hb2 HOW1 HRP1 RKa
    unfold frCells zeroF
    go_upto_region 6 with fail
    have NE_F_Z_9 : RowKit.Hid (w.heap.size ≠ wp2.heap.size) := Lib.hid (by have := (F_8.out).lt; omega)
    have LO_Z_9 : RowKit.Hid (w.heap.size ≤ wp2.heap.size) := Lib.hid (Bel_8.out).size
    have RM_10 := Lib.hid ((RM_8.out.al (.cells (#[.int .i64 0, .int .i64 0, .int .i64 0, .int .i64 0, .int .i64 0, .int .i64 0, .slice none 0 0]) 24)))
    have F_10 := Lib.hid ((F_8.out.al (.cells (#[.int .i64 0, .int .i64 0, .int .i64 0, .int .i64 0, .int .i64 0, .int .i64 0, .slice none 0 0]) 24)))
    have Z_10 := Lib.hid ((show Whole (wp2.alloc (.cells (#[.int .i64 0, .int .i64 0, .int .i64 0, .int .i64 0, .int .i64 0, .int .i64 0, .slice none 0 0]) 24)) (wp2.heap.size) (24) ([.int .i64 0, .int .i64 0, .int .i64 0, .int .i64 0, .int .i64 0, .int .i64 0, .slice none 0 0]) from Whole.new2 (by first | rfl | simp)))
    have Bel_10 := Lib.hid (bel_al Bel_8.out (.cells (#[.int .i64 0, .int .i64 0, .int .i64 0, .int .i64 0, .int .i64 0, .int .i64 0, .slice none 0 0]) 24))
    obtain ⟨v10, gv10⟩ : ∃ x, (wp2.alloc (.cells (#[.int .i64 0, .int .i64 0, .int .i64 0, .int .i64 0, .int .i64 0, .int .i64 0, .slice none 0 0]) 24)) = x := ⟨_, rfl⟩
    rw [gv10] at RM_10 F_10 Z_10 Bel_10 ⊢
    clear gv10
    obtain ⟨g11, gg11⟩ : ∃ x, wp2.heap.size = x := ⟨_, rfl⟩
    rw [gg11] at Z_10 LO_Z_9 NE_F_Z_9
    rw [gg11]
    clear gg11
    refine wp_region_lit ?_
    refine wpList_load_row rfl 24 (.tmp 2) rfl w.heap.size rfl 24 #[.int .i64 f.k, .int .i64 f.fr, .int .i64 f.tt, .int .i64 f.ep, .int .i64 f.sq, .int .i64 f.ac, .slice A M.length c] (0, 0) _ (F_10.out) Try.underlying24 rfl (by kernel_rfl) ?_
    simp only [Act.put, List.setIfInBounds_toArray, List.set_cons_zero, List.set_cons_succ]
    have HPc := Lib.hid (HPo.out v10 )
    unfold frCells at HPc
    go_wp2_with fail
    refine HPc.out.mono ?_
    rintro e wp3 ⟨rfl, hb3⟩
    have RM_12 := Lib.hid (RM_10.out.bl hb3)
    have F_12 := Lib.hid (F_10.out.bl hb3)
    have Bel_12 := Lib.hid (bel_bl Bel_10.out hb3)
    clear hb3 HPc
    go_wp2
    go_ret
    exact ⟨rfl, Bel_12.out⟩

set_option maxRecDepth 100000 in
set_option maxHeartbeats 4000000 in
theorem short_near (f : FrT) (A : Option Addr) (n c : Nat) (L : List Nat) (A2 : Option Addr) (n2 c2 : Nat) (L2 : List Nat) (w : World) (h : RdS w w.heap.size 1 A n c (rowsV f8 L)) (hb : ∀ b ∈ L, b < 256) (hn : n ≤ maxLen) (h2 : RdS w w.heap.size 1 A2 n2 c2 (rowsV f8 L2)) (hz : mayF f (L.take 16400).length = 0) (hM : ¬ 1000 < (L.take 16400).length) :
    Calls Try.prog 8 #[.agg #[.int .i64 f.k, .int .i64 f.fr, .int .i64 f.tt, .int .i64 f.ep, .int .i64 f.sq, .int .i64 f.ac, .slice A n c], .slice A2 n2 c2] w fun e w' => e = .returned (.bool true) ∧ Below w.heap.size w w' := by
  have hl := h.rlen f8_len (by decide)
  obtain ⟨M, gM⟩ : ∃ x, L.take 16400 = x := ⟨_, rfl⟩
  have hF := few15 f A n c L
  have hRM := h.fewer8 16400
  rw [gM] at hF hRM
  have HbM : RowKit.Hid (∀ b ∈ M, b < 256) := Lib.hid (gM ▸ fun b h => hb b (List.mem_of_mem_take h))
  have hM16 : M.length ≤ 16400 := by rw [← gM, List.length_take]; omega
  have HF : RowKit.Hid _ := Lib.hid (fun w' (h' : RdS w' w'.heap.size 1 A n c (rowsV f8 L)) => hF w' h' hn)
  have RM := Lib.hid hRM
  have LM : RowKit.Hid (∀ a, A = some a → 0 < M.length → a.block < w.heap.size) := Lib.hid hRM.low
  have RL := Lib.hid h
  have LL : RowKit.Hid (∀ a, A = some a → 0 < n → a.block < w.heap.size) := Lib.hid h.low
  clear hF hRM h hb hn hl
  rw [gM] at hz
  try rw [gM] at hM
  have hl2 := h2.rlen f8_len (by decide)
  have hcc2 := h2.le
  obtain ⟨K, gK⟩ : ∃ x, L2.take 18 = x := ⟨_, rfl⟩
  have hRK := h2.fewer8 18
  rw [gK] at hRK
  have hK18 : K.length ≤ 18 := by rw [← gK, List.length_take]; omega
  have hKn : K.length = min 18 n2 := by rw [← gK, List.length_take, hl2]
  have HKn := Lib.hid hKn
  have RK := Lib.hid hRK
  have LK : RowKit.Hid (∀ a, A2 = some a → 0 < K.length → a.block < w.heap.size) := Lib.hid hRK.low
  obtain ⟨nP, gnP⟩ : ∃ x, (putF f M).length = x := ⟨_, rfl⟩
  have HPo : RowKit.Hid (∀ W, RdS W W.heap.size 1 A M.length c (rowsV f8 M) → Calls Try.prog 11 #[.agg (frCells f A M.length c).toArray] W fun e w' => ∃ A' c', e = .returned (.tuple #[.slice A' nP c', .int .i64 0]) ∧ w'.ownsRow W.heap.size 5 1 (.slice A' nP c') nP (rowsV f8 (putF f M)) ∧ Below W.heap.size W w') := Lib.hid (fun W hr => by rw [← gnP]; exact put_own f A M.length c M W hz hr HbM.out)
  have HTP := Lib.hid (fun A1 c1 W (h : RdS W W.heap.size 1 A1 nP c1 (rowsV f8 (putF f M))) => take_t A1 nP c1 (putF f M) W f M 0 (take_of_put hz) h (putF_lt hz HbM.out) (by rw [← gnP, putF_len]; omega))
  have HPl : RowKit.Hid (nP = 19 + M.length) := Lib.hid (by rw [← gnP, putF_len])
  clear hz gnP
  obtain ⟨i0, hi, hz0, hz1, hz2⟩ := info_parts_ info_u8
  clear gM hKn gK hRK hl2 h2
  unfold frCells at HF
  go_enter Try.func8, Try.ntmps8
  go_wp2_with fail
  refine (shown15 _).mono ?_
  rintro e w1 ⟨rfl, hb1⟩
  have RL_2 := Lib.hid ((RL.out.al (.cells #[.int .i64 f.k, .int .i64 f.fr, .int .i64 f.tt, .int .i64 f.ep, .int .i64 f.sq, .int .i64 f.ac, .slice A n c] 24)).bl hb1)
  have RM_2 := Lib.hid ((RM.out.al (.cells #[.int .i64 f.k, .int .i64 f.fr, .int .i64 f.tt, .int .i64 f.ep, .int .i64 f.sq, .int .i64 f.ac, .slice A n c] 24)).bl hb1)
  have RK_2 := Lib.hid ((RK.out.al (.cells #[.int .i64 f.k, .int .i64 f.fr, .int .i64 f.tt, .int .i64 f.ep, .int .i64 f.sq, .int .i64 f.ac, .slice A n c] 24)).bl hb1)
  have F_2 := Lib.hid ((show Whole (w.alloc (.cells #[.int .i64 f.k, .int .i64 f.fr, .int .i64 f.tt, .int .i64 f.ep, .int .i64 f.sq, .int .i64 f.ac, .slice A n c] 24)) (w.heap.size) (24) ([.int .i64 f.k, .int .i64 f.fr, .int .i64 f.tt, .int .i64 f.ep, .int .i64 f.sq, .int .i64 f.ac, .slice A n c]) from Whole.new2 (by first | rfl | simp)).bl hb1)
  have Bel_2 := Lib.hid (bel_bl (bel_al (Below.refl _ w) (.cells #[.int .i64 f.k, .int .i64 f.fr, .int .i64 f.tt, .int .i64 f.ep, .int .i64 f.sq, .int .i64 f.ac, .slice A n c] 24)) hb1)
  clear hb1
  have LO_F_3 : RowKit.Hid (w.heap.size ≤ w.heap.size) := Lib.hid (by omega)
  go_upto_region 2 with fail
  refine wp_region_lit ?_
  refine wpList_load_row rfl 24 (.tmp 2) rfl w.heap.size rfl 24 #[.int .i64 f.k, .int .i64 f.fr, .int .i64 f.tt, .int .i64 f.ep, .int .i64 f.sq, .int .i64 f.ac, .slice A n c] (0, 0) _ (F_2.out) Try.underlying24 rfl (by kernel_rfl) ?_
  simp only [Act.put, List.setIfInBounds_toArray, List.set_cons_zero, List.set_cons_succ]
  go_wp2_with fail
  refine (HF.out _ RL_2.out).mono ?_
  rintro e w4 ⟨rfl, hb4⟩
  have RL_5 := Lib.hid (RL_2.out.bl hb4)
  have RM_5 := Lib.hid (RM_2.out.bl hb4)
  have RK_5 := Lib.hid (RK_2.out.bl hb4)
  have F_5 := Lib.hid (F_2.out.bl hb4)
  have Bel_5 := Lib.hid (bel_bl Bel_2.out hb4)
  clear hb4
  rename_i hK
  refine hK _ _ ?_
  clear hK
  refine wpList_store_row rfl 24 (.tmp 2) (.tmp 16) rfl w.heap.size #[.int .i64 f.k, .int .i64 f.fr, .int .i64 f.tt, .int .i64 f.ep, .int .i64 f.sq, .int .i64 f.ac, .slice A M.length c] rfl rfl 24 #[.int .i64 f.k, .int .i64 f.fr, .int .i64 f.tt, .int .i64 f.ep, .int .i64 f.sq, .int .i64 f.ac, .slice A n c] (F_5.out) (by kernel_rfl) rfl (by simp [Value.oneCell']) ?_
  obtain ⟨v6, gv6⟩ : ∃ x, w4.setRow w.heap.size #[.int .i64 f.k, .int .i64 f.fr, .int .i64 f.tt, .int .i64 f.ep, .int .i64 f.sq, .int .i64 f.ac, .slice A M.length c] = x := ⟨_, rfl⟩
  have RL_6 := Lib.hid (show RdS v6 v6.heap.size _ _ _ _ _ from gv6 ▸ RdS.row_far RL_5.out (g := w.heap.size) (fun a ha hn e => by have h1 := LL.out a ha hn; have h2 := LO_F_3.out; have h3 := Option.some.inj e; omega) #[.int .i64 f.k, .int .i64 f.fr, .int .i64 f.tt, .int .i64 f.ep, .int .i64 f.sq, .int .i64 f.ac, .slice A M.length c])
  have RM_6 := Lib.hid (show RdS v6 v6.heap.size _ _ _ _ _ from gv6 ▸ RdS.row_far RM_5.out (g := w.heap.size) (fun a ha hn e => by have h1 := LM.out a ha hn; have h2 := LO_F_3.out; have h3 := Option.some.inj e; omega) #[.int .i64 f.k, .int .i64 f.fr, .int .i64 f.tt, .int .i64 f.ep, .int .i64 f.sq, .int .i64 f.ac, .slice A M.length c])
  have RK_6 := Lib.hid (show RdS v6 v6.heap.size _ _ _ _ _ from gv6 ▸ RdS.row_far RK_5.out (g := w.heap.size) (fun a ha hn e => by have h1 := LK.out a ha hn; have h2 := LO_F_3.out; have h3 := Option.some.inj e; omega) #[.int .i64 f.k, .int .i64 f.fr, .int .i64 f.tt, .int .i64 f.ep, .int .i64 f.sq, .int .i64 f.ac, .slice A M.length c])
  have F_6 : RowKit.Hid (Whole v6 w.heap.size 24 [.int .i64 f.k, .int .i64 f.fr, .int .i64 f.tt, .int .i64 f.ep, .int .i64 f.sq, .int .i64 f.ac, .slice A M.length c]) := Lib.hid (gv6 ▸ Whole.row F_5.out [.int .i64 f.k, .int .i64 f.fr, .int .i64 f.tt, .int .i64 f.ep, .int .i64 f.sq, .int .i64 f.ac, .slice A M.length c])
  have Bel_6 : RowKit.Hid (Below w.heap.size w v6) := Lib.hid (gv6 ▸ below_row Bel_5.out LO_F_3.out _)
  rw [gv6]
  clear gv6
  clear HF
  go_upto_if 19 with fail
  go_cut [1] (fun v x => v = .slice A2 K.length c2 ∧ x = v6)
  case first =>
    by_cases h18 : 18 < n2
    · have ht : (18 : Int) < n2 := by omega
      have h18c : 18 ≤ c2 := by omega
      have hk : K.length = 18 := by have := HKn.out; omega
      go_wp2_with fail
      go_meet
      exact ⟨by rw [hk], rfl⟩
    · have ht : ¬ (18 : Int) < n2 := by omega
      have hk : K.length = n2 := by have := HKn.out; omega
      go_wp2_with fail
      go_meet
      exact ⟨by rw [hk], rfl⟩
  case rest =>
    obtain ⟨rfl, hcut2⟩ := hcut
    subst hcut2
    go_upto_region 5 with fail
    clear hcc2 HKn
    have RKa := Lib.hid (RK_6.out.al (.cells #[] 5))
    go_wp2_with (first
      | (at_builtin
         refine wpList_push2 rfl (.tmp 23) (.tmp 24) _ rfl _ 5 i0 _ 1 1 Try.underlying22 hi hz0 hz1 hz2 rfl (by decide) _ _ _ rfl (Ow.new_ (cs := #[]) (Below.refl _ _) (Nat.le_refl _) (Nat.le_refl _) (Nat.zero_le _) rfl) _ _ _ _ _ rfl (RKa.out) (f8_all _) (by unfold maxLen; omega) (by omega) ?_
         intro v1 wp1 how1 hb1 hgr
         rw [Nat.zero_add, List.nil_append] at how1
         obtain ⟨Ap1, cp1, rfl, hr1⟩ := how1.rds
         have HOW1 := Lib.hid how1
         have HRP1 := Lib.hid hr1
         clear how1 hb1 hgr hr1))
    have RM_7 := Lib.hid (RM_6.out.bl HOW1.out.below)
    have RK_7 := Lib.hid (RK_6.out.bl HOW1.out.below)
    have F_7 := Lib.hid (F_6.out.bl HOW1.out.below)
    have Bel_7 := Lib.hid (bel_bl Bel_6.out HOW1.out.below)
    refine (take_a Ap1 K.length cp1 K wp1 HRP1.out (by unfold maxLen; omega) (by omega)).mono ?_
    rintro e wp2 ⟨rfl, hb2⟩
    have RM_8 := Lib.hid (RM_7.out.bl hb2)
    have F_8 := Lib.hid (F_7.out.bl hb2)
    have Bel_8 := Lib.hid (bel_bl Bel_7.out hb2)
    clear hb2 HOW1 HRP1 RKa
    unfold frCells zeroF
    go_upto_region 6 with fail
    have NE_F_Z_9 : RowKit.Hid (w.heap.size ≠ wp2.heap.size) := Lib.hid (by have := (F_8.out).lt; omega)
    have LO_Z_9 : RowKit.Hid (w.heap.size ≤ wp2.heap.size) := Lib.hid (Bel_8.out).size
    have RM_10 := Lib.hid ((RM_8.out.al (.cells (#[.int .i64 0, .int .i64 0, .int .i64 0, .int .i64 0, .int .i64 0, .int .i64 0, .slice none 0 0]) 24)))
    have F_10 := Lib.hid ((F_8.out.al (.cells (#[.int .i64 0, .int .i64 0, .int .i64 0, .int .i64 0, .int .i64 0, .int .i64 0, .slice none 0 0]) 24)))
    have Z_10 := Lib.hid ((show Whole (wp2.alloc (.cells (#[.int .i64 0, .int .i64 0, .int .i64 0, .int .i64 0, .int .i64 0, .int .i64 0, .slice none 0 0]) 24)) (wp2.heap.size) (24) ([.int .i64 0, .int .i64 0, .int .i64 0, .int .i64 0, .int .i64 0, .int .i64 0, .slice none 0 0]) from Whole.new2 (by first | rfl | simp)))
    have Bel_10 := Lib.hid (bel_al Bel_8.out (.cells (#[.int .i64 0, .int .i64 0, .int .i64 0, .int .i64 0, .int .i64 0, .int .i64 0, .slice none 0 0]) 24))
    obtain ⟨v10, gv10⟩ : ∃ x, (wp2.alloc (.cells (#[.int .i64 0, .int .i64 0, .int .i64 0, .int .i64 0, .int .i64 0, .int .i64 0, .slice none 0 0]) 24)) = x := ⟨_, rfl⟩
    rw [gv10] at RM_10 F_10 Z_10 Bel_10 ⊢
    clear gv10
    obtain ⟨g11, gg11⟩ : ∃ x, wp2.heap.size = x := ⟨_, rfl⟩
    rw [gg11] at Z_10 LO_Z_9 NE_F_Z_9
    rw [gg11]
    clear gg11
    refine wp_region_lit ?_
    refine wpList_load_row rfl 24 (.tmp 2) rfl w.heap.size rfl 24 #[.int .i64 f.k, .int .i64 f.fr, .int .i64 f.tt, .int .i64 f.ep, .int .i64 f.sq, .int .i64 f.ac, .slice A M.length c] (0, 0) _ (F_10.out) Try.underlying24 rfl (by kernel_rfl) ?_
    simp only [Act.put, List.setIfInBounds_toArray, List.set_cons_zero, List.set_cons_succ]
    have HPc := Lib.hid (HPo.out v10 RM_10.out)
    unfold frCells at HPc
    go_wp2_with fail
    have HFP := Lib.hid (F_10.out)
    refine HPc.out.mono ?_
    rintro e wp3 ⟨Aq, cq, rfl, hq, hb3⟩
    have RM_12 := Lib.hid (RM_10.out.bl hb3)
    have F_12 := Lib.hid (F_10.out.bl hb3)
    have Bel_12 := Lib.hid (bel_bl Bel_10.out hb3)
    clear hb3 HPc HPo
    have lw13 : (wp3).cell? ⟨w.heap.size, 6, none⟩ = some (.slice A M.length c) := F_12.out.cell (i := 6) rfl
    have hM1 : ¬ (1000 : Int) < (M.length : Int) := by omega
    go_upto_region 9 with fail
    clear hM1 lw13
    obtain ⟨A4, c4, e4, hr4⟩ := RdS.of_own hq
    injection e4 with a1 a2 a3
    subst a1 a3
    have HQ := Lib.hid hq
    have RA := Lib.hid hr4
    clear hr4 hq
    go_wp2_with fail
    refine (HTP.out _ _ _ RA.out).mono ?_
    rintro e wp4 ⟨At, ct, rfl, hrt, hft, hb4⟩
    have HFt : RowKit.Hid (∀ a, At = some a → 0 < M.length → wp3.heap.size ≤ a.block) := Lib.hid hft
    have HQ4 := Lib.hid (own_up HQ.out hb4)
    have HGC : RowKit.Hid (w.heap.size < v10.heap.size) := Lib.hid (HFP.out.lt)
    have RM_14 := Lib.hid (RM_12.out.bl hb4)
    have F_14 := Lib.hid (F_12.out.bl hb4)
    have RA_14 := Lib.hid (RA.out.bl hb4)
    have Bel_14 := Lib.hid (bel_bl Bel_12.out hb4)
    have RT := Lib.hid hrt
    clear hb4 HTP hft hrt
    unfold frCells
    obtain ⟨ga, cap, cur, eq1, hga, hgh, hle, hcm, hcs, htk⟩ : ∃ ga cap cur, Value.slice Aq nP cq = .slice (some ⟨ga, 0, none⟩) nP cap ∧ v10.heap.size ≤ ga ∧ wp4.heap[ga]? = some (.cells cur 5 (0, 0)) ∧ nP ≤ cap ∧ cap ≤ maxLen ∧ cur.size = cap * 1 ∧ cur.toList.take (nP * 1) = rowsV f8 (putF f M) := by
      rcases HQ4.out.2 with ⟨_, h0⟩ | h1
      · have := HPl.out; omega
      · exact h1
    injection eq1 with a1 a2 a3
    subst a1 a3
    have RG : RowKit.Hid (Whole wp4 ga 5 cur.toList) := Lib.hid (by unfold Whole; rw [Array.toArray_toList]; exact hgh)
    have HCL : RowKit.Hid (cur.toList.length = cq) := Lib.hid (by rw [Array.length_toList]; omega)
    have HGA : RowKit.Hid (w.heap.size < ga) := Lib.hid (Nat.lt_of_lt_of_le HGC.out hga)
    have HGB : RowKit.Hid (ga < wp3.heap.size) := Lib.hid ((HQ.out.lt ga rfl).2)
    have hcq : nP ≤ cq := hle
    have hnP : nP ≤ 2000 := by have := HPl.out; omega
    clear hga hgh hcm hcs htk HQ HQ4 hle HGC HFP
    go_upto_region 10 with fail
    have NE_F_X_15 : RowKit.Hid (w.heap.size ≠ wp4.heap.size) := Lib.hid (by have := (F_14.out).lt; omega)
    have NE_RG_X_15 : RowKit.Hid (ga ≠ wp4.heap.size) := Lib.hid (by have := (RG.out).lt; omega)
    have LO_X_15 : RowKit.Hid (w.heap.size ≤ wp4.heap.size) := Lib.hid (Bel_14.out).size
    have RM_16 := Lib.hid ((RM_14.out.al (.cells (#[.int .i64 f.k, .int .i64 f.fr, .int .i64 f.tt, .int .i64 f.ep, .int .i64 f.sq, .int .i64 f.ac, .slice At M.length ct]) 24)))
    have F_16 := Lib.hid ((F_14.out.al (.cells (#[.int .i64 f.k, .int .i64 f.fr, .int .i64 f.tt, .int .i64 f.ep, .int .i64 f.sq, .int .i64 f.ac, .slice At M.length ct]) 24)))
    have RT_16 := Lib.hid ((RT.out.al (.cells (#[.int .i64 f.k, .int .i64 f.fr, .int .i64 f.tt, .int .i64 f.ep, .int .i64 f.sq, .int .i64 f.ac, .slice At M.length ct]) 24)))
    have RG_16 := Lib.hid ((RG.out.al (.cells (#[.int .i64 f.k, .int .i64 f.fr, .int .i64 f.tt, .int .i64 f.ep, .int .i64 f.sq, .int .i64 f.ac, .slice At M.length ct]) 24)))
    have X_16 := Lib.hid ((show Whole (wp4.alloc (.cells (#[.int .i64 f.k, .int .i64 f.fr, .int .i64 f.tt, .int .i64 f.ep, .int .i64 f.sq, .int .i64 f.ac, .slice At M.length ct]) 24)) (wp4.heap.size) (24) ([.int .i64 f.k, .int .i64 f.fr, .int .i64 f.tt, .int .i64 f.ep, .int .i64 f.sq, .int .i64 f.ac, .slice At M.length ct]) from Whole.new2 (by first | rfl | simp)))
    have Bel_16 := Lib.hid (bel_al Bel_14.out (.cells (#[.int .i64 f.k, .int .i64 f.fr, .int .i64 f.tt, .int .i64 f.ep, .int .i64 f.sq, .int .i64 f.ac, .slice At M.length ct]) 24))
    obtain ⟨v16, gv16⟩ : ∃ x, (wp4.alloc (.cells (#[.int .i64 f.k, .int .i64 f.fr, .int .i64 f.tt, .int .i64 f.ep, .int .i64 f.sq, .int .i64 f.ac, .slice At M.length ct]) 24)) = x := ⟨_, rfl⟩
    rw [gv16] at RM_16 F_16 RT_16 RG_16 X_16 Bel_16 ⊢
    clear gv16
    obtain ⟨g17, gg17⟩ : ∃ x, wp4.heap.size = x := ⟨_, rfl⟩
    rw [gg17] at X_16 LO_X_15 NE_F_X_15 NE_RG_X_15
    rw [gg17]
    clear gg17
    have HL0 : RowKit.Hid (∃ cu, Whole v16 ga 5 cu ∧ cu.length = cq ∧ Kept (fun b => b = ga) v16 v16) := Lib.hid ⟨_, RG_16.out, HCL.out, Kept.refl _ _⟩
    go_wp2
    go_loopw [12] (fun i wr => ∃ k : Nat, k ≤ nP ∧ i = .int .i64 k ∧ RowKit.Hid (∃ cu, Whole wr ga 5 cu ∧ cu.length = cq ∧ Kept (fun b => b = ga) v16 wr)) (fun i _ => nP - (intOf i).toNat)
    case atStart => exact ⟨0, Nat.zero_le _, rfl, HL0⟩
    case round =>
      rename_i wr _
      clear HL0
      obtain ⟨k, hk, rfl, HL⟩ := hrel
      by_cases hlt : k < nP
      · obtain ⟨cu, hw, hcl, hkp⟩ := HL.out
        have HW := Lib.hid hw
        have HC2 := Lib.hid hcl
        have HKp := Lib.hid hkp
        have hxk := hw.cell (i := k) (v := cu[k]'(by omega)) (List.getElem?_eq_getElem _)
        have hfk := hw.free k
        obtain ⟨vk, gvk⟩ : ∃ x, cu[k]'(by omega) = x := ⟨_, rfl⟩
        rw [gvk] at hxk
        clear hw hcl hkp HL gvk
        go_wp2
        go_roundw
        case rel => exact ⟨k + 1, by omega, by go_num, Lib.hid ⟨_, HW.out.set_ k _, by rw [List.length_set]; exact HC2.out, HKp.out.setCell (.inl rfl) _⟩⟩
        case measure => simp [intOf]; omega
      · obtain rfl : k = nP := by omega
        obtain ⟨cu, hw, hcl, hkp⟩ := HL.out
        have HF9 := Lib.hid (hkp.whole F_16.out (fun e => by have h1 := HGA.out; have h2 : w.heap.size = ga := e; omega))
        have HX9 := Lib.hid (hkp.whole X_16.out (fun e => absurd e (Ne.symm NE_RG_X_15.out)))
        have HM9 := Lib.hid (RdS.kept_ne RM_16.out hkp (fun a ha hn e => by have h1 := LM.out a ha hn; have h2 := HGA.out; have h3 : a.block = ga := e; omega))
        have HT9 := Lib.hid (RdS.kept_ne RT_16.out hkp (fun a ha hn e => by have h1 := HFt.out a ha hn; have h2 := HGB.out; have h3 : a.block = ga := e; omega))
        have HB9 : RowKit.Hid (Below w.heap.size w wr) := Lib.hid (Below.trans Bel_16.out (hkp.below Bel_16.out.size (fun i hi e => by have h2 := HGA.out; have h3 : i = ga := e; omega)))
        clear hw hcl hkp HL
        go_upto_region 14 with fail
        refine wp_region_lit ?_
        refine wpList_load_row rfl 24 (.tmp 10) rfl g17 rfl 24 #[.int .i64 f.k, .int .i64 f.fr, .int .i64 f.tt, .int .i64 f.ep, .int .i64 f.sq, .int .i64 f.ac, .slice At M.length ct] (0, 0) _ HX9.out Try.underlying24 rfl (by kernel_rfl) ?_
        simp only [Act.put, List.setIfInBounds_toArray, List.set_cons_zero, List.set_cons_succ]
        refine wpList_load_row rfl 24 (.tmp 2) rfl w.heap.size rfl 24 #[.int .i64 f.k, .int .i64 f.fr, .int .i64 f.tt, .int .i64 f.ep, .int .i64 f.sq, .int .i64 f.ac, .slice A M.length c] (0, 0) _ HF9.out Try.underlying24 rfl (by kernel_rfl) ?_
        simp only [Act.put, List.setIfInBounds_toArray, List.set_cons_zero, List.set_cons_succ]
        have HSm := Lib.hid (same_any f f At A M.length ct M.length c M M wr HT9.out HM9.out)
        rw [sameF_self] at HSm
        unfold frCells at HSm
        go_wp2_with fail
        refine HSm.out.mono ?_
        rintro e wz ⟨rfl, hbz⟩
        have HBz : RowKit.Hid (Below w.heap.size w wz) := Lib.hid (bel_bl HB9.out hbz)
        clear hbz
        go_wp2
        go_ret
        exact ⟨rfl, HBz.out⟩

set_option maxRecDepth 100000 in
set_option maxHeartbeats 4000000 in
theorem short_far (f : FrT) (A : Option Addr) (n c : Nat) (L : List Nat) (A2 : Option Addr) (n2 c2 : Nat) (L2 : List Nat) (w : World) (h : RdS w w.heap.size 1 A n c (rowsV f8 L)) (hb : ∀ b ∈ L, b < 256) (hn : n ≤ maxLen) (h2 : RdS w w.heap.size 1 A2 n2 c2 (rowsV f8 L2)) (hz : mayF f (L.take 16400).length = 0) (hM : 1000 < (L.take 16400).length) :
    Calls Try.prog 8 #[.agg #[.int .i64 f.k, .int .i64 f.fr, .int .i64 f.tt, .int .i64 f.ep, .int .i64 f.sq, .int .i64 f.ac, .slice A n c], .slice A2 n2 c2] w fun e w' => e = .returned (.bool true) ∧ Below w.heap.size w w' := by
  have hl := h.rlen f8_len (by decide)
  obtain ⟨M, gM⟩ : ∃ x, L.take 16400 = x := ⟨_, rfl⟩
  have hF := few15 f A n c L
  have hRM := h.fewer8 16400
  rw [gM] at hF hRM
  have HbM : RowKit.Hid (∀ b ∈ M, b < 256) := Lib.hid (gM ▸ fun b h => hb b (List.mem_of_mem_take h))
  have hM16 : M.length ≤ 16400 := by rw [← gM, List.length_take]; omega
  have HF : RowKit.Hid _ := Lib.hid (fun w' (h' : RdS w' w'.heap.size 1 A n c (rowsV f8 L)) => hF w' h' hn)
  have RM := Lib.hid hRM
  have LM : RowKit.Hid (∀ a, A = some a → 0 < M.length → a.block < w.heap.size) := Lib.hid hRM.low
  have RL := Lib.hid h
  have LL : RowKit.Hid (∀ a, A = some a → 0 < n → a.block < w.heap.size) := Lib.hid h.low
  clear hF hRM h hb hn hl
  rw [gM] at hz
  try rw [gM] at hM
  have hl2 := h2.rlen f8_len (by decide)
  have hcc2 := h2.le
  obtain ⟨K, gK⟩ : ∃ x, L2.take 18 = x := ⟨_, rfl⟩
  have hRK := h2.fewer8 18
  rw [gK] at hRK
  have hK18 : K.length ≤ 18 := by rw [← gK, List.length_take]; omega
  have hKn : K.length = min 18 n2 := by rw [← gK, List.length_take, hl2]
  have HKn := Lib.hid hKn
  have RK := Lib.hid hRK
  have LK : RowKit.Hid (∀ a, A2 = some a → 0 < K.length → a.block < w.heap.size) := Lib.hid hRK.low
  obtain ⟨nP, gnP⟩ : ∃ x, (putF f M).length = x := ⟨_, rfl⟩
  have HPo : RowKit.Hid (∀ W, RdS W W.heap.size 1 A M.length c (rowsV f8 M) → Calls Try.prog 11 #[.agg (frCells f A M.length c).toArray] W fun e w' => ∃ A' c', e = .returned (.tuple #[.slice A' nP c', .int .i64 0]) ∧ w'.ownsRow W.heap.size 5 1 (.slice A' nP c') nP (rowsV f8 (putF f M)) ∧ Below W.heap.size W w') := Lib.hid (fun W hr => by rw [← gnP]; exact put_own f A M.length c M W hz hr HbM.out)
  have HTP := Lib.hid (fun A1 c1 W (h : RdS W W.heap.size 1 A1 nP c1 (rowsV f8 (putF f M))) => take_t A1 nP c1 (putF f M) W f M 0 (take_of_put hz) h (putF_lt hz HbM.out) (by rw [← gnP, putF_len]; omega))
  have HPl : RowKit.Hid (nP = 19 + M.length) := Lib.hid (by rw [← gnP, putF_len])
  clear hz gnP
  obtain ⟨i0, hi, hz0, hz1, hz2⟩ := info_parts_ info_u8
  clear gM hKn gK hRK hl2 h2
  unfold frCells at HF
  go_enter Try.func8, Try.ntmps8
  go_wp2_with fail
  refine (shown15 _).mono ?_
  rintro e w1 ⟨rfl, hb1⟩
  have RL_2 := Lib.hid ((RL.out.al (.cells #[.int .i64 f.k, .int .i64 f.fr, .int .i64 f.tt, .int .i64 f.ep, .int .i64 f.sq, .int .i64 f.ac, .slice A n c] 24)).bl hb1)
  have RM_2 := Lib.hid ((RM.out.al (.cells #[.int .i64 f.k, .int .i64 f.fr, .int .i64 f.tt, .int .i64 f.ep, .int .i64 f.sq, .int .i64 f.ac, .slice A n c] 24)).bl hb1)
  have RK_2 := Lib.hid ((RK.out.al (.cells #[.int .i64 f.k, .int .i64 f.fr, .int .i64 f.tt, .int .i64 f.ep, .int .i64 f.sq, .int .i64 f.ac, .slice A n c] 24)).bl hb1)
  have F_2 := Lib.hid ((show Whole (w.alloc (.cells #[.int .i64 f.k, .int .i64 f.fr, .int .i64 f.tt, .int .i64 f.ep, .int .i64 f.sq, .int .i64 f.ac, .slice A n c] 24)) (w.heap.size) (24) ([.int .i64 f.k, .int .i64 f.fr, .int .i64 f.tt, .int .i64 f.ep, .int .i64 f.sq, .int .i64 f.ac, .slice A n c]) from Whole.new2 (by first | rfl | simp)).bl hb1)
  have Bel_2 := Lib.hid (bel_bl (bel_al (Below.refl _ w) (.cells #[.int .i64 f.k, .int .i64 f.fr, .int .i64 f.tt, .int .i64 f.ep, .int .i64 f.sq, .int .i64 f.ac, .slice A n c] 24)) hb1)
  clear hb1
  have LO_F_3 : RowKit.Hid (w.heap.size ≤ w.heap.size) := Lib.hid (by omega)
  go_upto_region 2 with fail
  refine wp_region_lit ?_
  refine wpList_load_row rfl 24 (.tmp 2) rfl w.heap.size rfl 24 #[.int .i64 f.k, .int .i64 f.fr, .int .i64 f.tt, .int .i64 f.ep, .int .i64 f.sq, .int .i64 f.ac, .slice A n c] (0, 0) _ (F_2.out) Try.underlying24 rfl (by kernel_rfl) ?_
  simp only [Act.put, List.setIfInBounds_toArray, List.set_cons_zero, List.set_cons_succ]
  go_wp2_with fail
  refine (HF.out _ RL_2.out).mono ?_
  rintro e w4 ⟨rfl, hb4⟩
  have RL_5 := Lib.hid (RL_2.out.bl hb4)
  have RM_5 := Lib.hid (RM_2.out.bl hb4)
  have RK_5 := Lib.hid (RK_2.out.bl hb4)
  have F_5 := Lib.hid (F_2.out.bl hb4)
  have Bel_5 := Lib.hid (bel_bl Bel_2.out hb4)
  clear hb4
  rename_i hK
  refine hK _ _ ?_
  clear hK
  refine wpList_store_row rfl 24 (.tmp 2) (.tmp 16) rfl w.heap.size #[.int .i64 f.k, .int .i64 f.fr, .int .i64 f.tt, .int .i64 f.ep, .int .i64 f.sq, .int .i64 f.ac, .slice A M.length c] rfl rfl 24 #[.int .i64 f.k, .int .i64 f.fr, .int .i64 f.tt, .int .i64 f.ep, .int .i64 f.sq, .int .i64 f.ac, .slice A n c] (F_5.out) (by kernel_rfl) rfl (by simp [Value.oneCell']) ?_
  obtain ⟨v6, gv6⟩ : ∃ x, w4.setRow w.heap.size #[.int .i64 f.k, .int .i64 f.fr, .int .i64 f.tt, .int .i64 f.ep, .int .i64 f.sq, .int .i64 f.ac, .slice A M.length c] = x := ⟨_, rfl⟩
  have RL_6 := Lib.hid (show RdS v6 v6.heap.size _ _ _ _ _ from gv6 ▸ RdS.row_far RL_5.out (g := w.heap.size) (fun a ha hn e => by have h1 := LL.out a ha hn; have h2 := LO_F_3.out; have h3 := Option.some.inj e; omega) #[.int .i64 f.k, .int .i64 f.fr, .int .i64 f.tt, .int .i64 f.ep, .int .i64 f.sq, .int .i64 f.ac, .slice A M.length c])
  have RM_6 := Lib.hid (show RdS v6 v6.heap.size _ _ _ _ _ from gv6 ▸ RdS.row_far RM_5.out (g := w.heap.size) (fun a ha hn e => by have h1 := LM.out a ha hn; have h2 := LO_F_3.out; have h3 := Option.some.inj e; omega) #[.int .i64 f.k, .int .i64 f.fr, .int .i64 f.tt, .int .i64 f.ep, .int .i64 f.sq, .int .i64 f.ac, .slice A M.length c])
  have RK_6 := Lib.hid (show RdS v6 v6.heap.size _ _ _ _ _ from gv6 ▸ RdS.row_far RK_5.out (g := w.heap.size) (fun a ha hn e => by have h1 := LK.out a ha hn; have h2 := LO_F_3.out; have h3 := Option.some.inj e; omega) #[.int .i64 f.k, .int .i64 f.fr, .int .i64 f.tt, .int .i64 f.ep, .int .i64 f.sq, .int .i64 f.ac, .slice A M.length c])
  have F_6 : RowKit.Hid (Whole v6 w.heap.size 24 [.int .i64 f.k, .int .i64 f.fr, .int .i64 f.tt, .int .i64 f.ep, .int .i64 f.sq, .int .i64 f.ac, .slice A M.length c]) := Lib.hid (gv6 ▸ Whole.row F_5.out [.int .i64 f.k, .int .i64 f.fr, .int .i64 f.tt, .int .i64 f.ep, .int .i64 f.sq, .int .i64 f.ac, .slice A M.length c])
  have Bel_6 : RowKit.Hid (Below w.heap.size w v6) := Lib.hid (gv6 ▸ below_row Bel_5.out LO_F_3.out _)
  rw [gv6]
  clear gv6
  clear HF
  go_upto_if 19 with fail
  go_cut [1] (fun v x => v = .slice A2 K.length c2 ∧ x = v6)
  case first =>
    by_cases h18 : 18 < n2
    · have ht : (18 : Int) < n2 := by omega
      have h18c : 18 ≤ c2 := by omega
      have hk : K.length = 18 := by have := HKn.out; omega
      go_wp2_with fail
      go_meet
      exact ⟨by rw [hk], rfl⟩
    · have ht : ¬ (18 : Int) < n2 := by omega
      have hk : K.length = n2 := by have := HKn.out; omega
      go_wp2_with fail
      go_meet
      exact ⟨by rw [hk], rfl⟩
  case rest =>
    obtain ⟨rfl, hcut2⟩ := hcut
    subst hcut2
    go_upto_region 5 with fail
    clear hcc2 HKn
    have RKa := Lib.hid (RK_6.out.al (.cells #[] 5))
    go_wp2_with (first
      | (at_builtin
         refine wpList_push2 rfl (.tmp 23) (.tmp 24) _ rfl _ 5 i0 _ 1 1 Try.underlying22 hi hz0 hz1 hz2 rfl (by decide) _ _ _ rfl (Ow.new_ (cs := #[]) (Below.refl _ _) (Nat.le_refl _) (Nat.le_refl _) (Nat.zero_le _) rfl) _ _ _ _ _ rfl (RKa.out) (f8_all _) (by unfold maxLen; omega) (by omega) ?_
         intro v1 wp1 how1 hb1 hgr
         rw [Nat.zero_add, List.nil_append] at how1
         obtain ⟨Ap1, cp1, rfl, hr1⟩ := how1.rds
         have HOW1 := Lib.hid how1
         have HRP1 := Lib.hid hr1
         clear how1 hb1 hgr hr1))
    have RM_7 := Lib.hid (RM_6.out.bl HOW1.out.below)
    have RK_7 := Lib.hid (RK_6.out.bl HOW1.out.below)
    have F_7 := Lib.hid (F_6.out.bl HOW1.out.below)
    have Bel_7 := Lib.hid (bel_bl Bel_6.out HOW1.out.below)
    refine (take_a Ap1 K.length cp1 K wp1 HRP1.out (by unfold maxLen; omega) (by omega)).mono ?_
    rintro e wp2 ⟨rfl, hb2⟩
    have RM_8 := Lib.hid (RM_7.out.bl hb2)
    have F_8 := Lib.hid (F_7.out.bl hb2)
    have Bel_8 := Lib.hid (bel_bl Bel_7.out hb2)
    clear hb2 HOW1 HRP1 RKa
    unfold frCells zeroF
    go_upto_region 6 with fail
    have NE_F_Z_9 : RowKit.Hid (w.heap.size ≠ wp2.heap.size) := Lib.hid (by have := (F_8.out).lt; omega)
    have LO_Z_9 : RowKit.Hid (w.heap.size ≤ wp2.heap.size) := Lib.hid (Bel_8.out).size
    have RM_10 := Lib.hid ((RM_8.out.al (.cells (#[.int .i64 0, .int .i64 0, .int .i64 0, .int .i64 0, .int .i64 0, .int .i64 0, .slice none 0 0]) 24)))
    have F_10 := Lib.hid ((F_8.out.al (.cells (#[.int .i64 0, .int .i64 0, .int .i64 0, .int .i64 0, .int .i64 0, .int .i64 0, .slice none 0 0]) 24)))
    have Z_10 := Lib.hid ((show Whole (wp2.alloc (.cells (#[.int .i64 0, .int .i64 0, .int .i64 0, .int .i64 0, .int .i64 0, .int .i64 0, .slice none 0 0]) 24)) (wp2.heap.size) (24) ([.int .i64 0, .int .i64 0, .int .i64 0, .int .i64 0, .int .i64 0, .int .i64 0, .slice none 0 0]) from Whole.new2 (by first | rfl | simp)))
    have Bel_10 := Lib.hid (bel_al Bel_8.out (.cells (#[.int .i64 0, .int .i64 0, .int .i64 0, .int .i64 0, .int .i64 0, .int .i64 0, .slice none 0 0]) 24))
    obtain ⟨v10, gv10⟩ : ∃ x, (wp2.alloc (.cells (#[.int .i64 0, .int .i64 0, .int .i64 0, .int .i64 0, .int .i64 0, .int .i64 0, .slice none 0 0]) 24)) = x := ⟨_, rfl⟩
    rw [gv10] at RM_10 F_10 Z_10 Bel_10 ⊢
    clear gv10
    obtain ⟨g11, gg11⟩ : ∃ x, wp2.heap.size = x := ⟨_, rfl⟩
    rw [gg11] at Z_10 LO_Z_9 NE_F_Z_9
    rw [gg11]
    clear gg11
    refine wp_region_lit ?_
    refine wpList_load_row rfl 24 (.tmp 2) rfl w.heap.size rfl 24 #[.int .i64 f.k, .int .i64 f.fr, .int .i64 f.tt, .int .i64 f.ep, .int .i64 f.sq, .int .i64 f.ac, .slice A M.length c] (0, 0) _ (F_10.out) Try.underlying24 rfl (by kernel_rfl) ?_
    simp only [Act.put, List.setIfInBounds_toArray, List.set_cons_zero, List.set_cons_succ]
    have HPc := Lib.hid (HPo.out v10 RM_10.out)
    unfold frCells at HPc
    go_wp2_with fail
    have HFP := Lib.hid (F_10.out)
    refine HPc.out.mono ?_
    rintro e wp3 ⟨Aq, cq, rfl, hq, hb3⟩
    have RM_12 := Lib.hid (RM_10.out.bl hb3)
    have F_12 := Lib.hid (F_10.out.bl hb3)
    have Bel_12 := Lib.hid (bel_bl Bel_10.out hb3)
    clear hb3 HPc HPo
    have lw13 : (wp3).cell? ⟨w.heap.size, 6, none⟩ = some (.slice A M.length c) := F_12.out.cell (i := 6) rfl
    have hM1 : (1000 : Int) < (M.length : Int) := by omega
    clear hM
    go_wp2
    go_ret
    exact ⟨rfl, Bel_12.out⟩

theorem law_short (f : FrT) (A : Option Addr) (n c : Nat) (L : List Nat) (A2 : Option Addr) (n2 c2 : Nat) (L2 : List Nat) (w : World) (h : RdS w w.heap.size 1 A n c (rowsV f8 L)) (hb : ∀ b ∈ L, b < 256) (hn : n ≤ maxLen) (h2 : RdS w w.heap.size 1 A2 n2 c2 (rowsV f8 L2)) (_hb2 : ∀ b ∈ L2, b < 256) :
    Calls Try.prog 8 #[.agg (frCells f A n c).toArray, .slice A2 n2 c2] w fun e w' => e = .returned (.bool true) ∧ Below w.heap.size w w' := by
  by_cases hz : mayF f (L.take 16400).length = 0
  · by_cases hM : 1000 < (L.take 16400).length
    · exact short_far f A n c L A2 n2 c2 L2 w h hb hn h2 hz hM
    · exact short_near f A n c L A2 n2 c2 L2 w h hb hn h2 hz hM
  · exact short_not f A n c L A2 n2 c2 L2 w h hb hn h2 hz
end Go.Proofs.Ytgmjehejaailpaa
