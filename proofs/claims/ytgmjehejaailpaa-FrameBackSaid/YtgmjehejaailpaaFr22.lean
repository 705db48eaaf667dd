/- The law FrameApart. -/
import Derived.Test.YtgmjehejaailpaaFr21
import Derived.Deep.CutBlock
namespace Go.Proofs.Ytgmjehejaailpaa
open Go.RowKit
set_option linter.unusedSimpArgs false
set_option linter.unusedVariables false

/-- The frame with field y set to v; its body with a byte more. -/
def setF (f : FrT) (y v : Int) : FrT := if y = 0 then { f with k := v } else if y = 1 then { f with fr := v } else if y = 2 then { f with tt := v } else if y = 3 then { f with ep := v } else if y = 4 then { f with sq := v } else if y = 5 then { f with ac := v } else f
def setB (M : List Nat) (y v : Int) : List Nat := if y = 0 ∨ y = 1 ∨ y = 2 ∨ y = 3 ∨ y = 4 ∨ y = 5 then M else M ++ [(v % 256).toNat]
theorem apart_bool {f g : FrT} {M N : List Nat} (hf : mayF f M.length = 0) (hg : mayF g N.length = 0) (hm : ∀ b ∈ M, b < 256) (hn : ∀ b ∈ N, b < 256) :
    ((((txt (putF f M)).toList == (txt (putF g N)).toList) == sameF f g M N) = true) := by
  rw [txt_eq (putF_lt hf hm) (putF_lt hg hn)]
  unfold sameF
  rw [txt_eq hm hn, beq_iff_eq]
  by_cases h : putF f M = putF g N
  · obtain ⟨h1, h2⟩ := putF_inj hf hg h
    subst h1 h2
    simp
  · rw [decide_eq_false h]
    by_cases h1 : f = g
    · subst h1
      rw [decide_eq_false (p := M = N) (fun e => h (by rw [e]))]
      simp
    · rw [decide_eq_false h1]; rfl
set_option maxRecDepth 100000 in
set_option maxHeartbeats 4000000 in
theorem apart_far (f : FrT) (A : Option Addr) (n c : Nat) (L : List Nat) (y v : Int) (w : World) (h : RdS w w.heap.size 1 A n c (rowsV f8 L)) (hb : ∀ b ∈ L, b < 256) (hn : n ≤ maxLen) (hM : 1000 < (L.take 16400).length) :
    Calls Try.prog 6 #[.agg #[.int .i64 f.k, .int .i64 f.fr, .int .i64 f.tt, .int .i64 f.ep, .int .i64 f.sq, .int .i64 f.ac, .slice A n c], .int .i64 y, .int .i64 v] w fun e w' => e = .returned (.bool true) ∧ Below w.heap.size w w' := by
  have hl := h.rlen f8_len (by decide)
  obtain ⟨M, gM⟩ : ∃ x, L.take 16400 = x := ⟨_, rfl⟩
  have hF := few15 f A n c L
  have hRM := h.fewer8 16400
  rw [gM] at hF hRM
  have HbM : RowKit.Hid (∀ b ∈ M, b < 256) := Lib.hid (gM ▸ fun b h => hb b (List.mem_of_mem_take h))
  have hM16 : M.length ≤ 16400 := by rw [← gM, List.length_take]; omega
  have HF : RowKit.Hid _ := Lib.hid (fun w' (h' : RdS w' w'.heap.size 1 A n c (rowsV f8 L)) => hF w' h' hn)
  have RM := Lib.hid hRM
  have LM : RowKit.Hid (∀ a, A = some a → 0 < M.length → a.block < w.heap.size) := Lib.hid hRM.low
  have RL := Lib.hid h
  have LL : RowKit.Hid (∀ a, A = some a → 0 < n → a.block < w.heap.size) := Lib.hid h.low
  clear hF hRM h hb hn hl
  rw [gM] at hM
  try rw [gM] at hz
  have hM1 : (1000 : Int) < (M.length : Int) := by omega
  obtain ⟨i0, hi, hz0, hz1, hz2⟩ := info_parts_ info_u8
  clear gM
  unfold frCells at HF
  go_enter Try.func6, Try.ntmps6
  go_wp2_with fail
  refine (shown15 _).mono ?_
  rintro e w1 ⟨rfl, hb1⟩
  have RL_2 := Lib.hid ((RL.out.al (.cells #[.int .i64 f.k, .int .i64 f.fr, .int .i64 f.tt, .int .i64 f.ep, .int .i64 f.sq, .int .i64 f.ac, .slice A n c] 24)).bl hb1)
  have RM_2 := Lib.hid ((RM.out.al (.cells #[.int .i64 f.k, .int .i64 f.fr, .int .i64 f.tt, .int .i64 f.ep, .int .i64 f.sq, .int .i64 f.ac, .slice A n c] 24)).bl hb1)
  have F_2 := Lib.hid ((show Whole (w.alloc (.cells #[.int .i64 f.k, .int .i64 f.fr, .int .i64 f.tt, .int .i64 f.ep, .int .i64 f.sq, .int .i64 f.ac, .slice A n c] 24)) (w.heap.size) (24) ([.int .i64 f.k, .int .i64 f.fr, .int .i64 f.tt, .int .i64 f.ep, .int .i64 f.sq, .int .i64 f.ac, .slice A n c]) from Whole.new2 (by first | rfl | simp)).bl hb1)
  have Bel_2 := Lib.hid (bel_bl (bel_al (Below.refl _ w) (.cells #[.int .i64 f.k, .int .i64 f.fr, .int .i64 f.tt, .int .i64 f.ep, .int .i64 f.sq, .int .i64 f.ac, .slice A n c] 24)) hb1)
  clear hb1
  have LO_F_3 : RowKit.Hid (w.heap.size ≤ w.heap.size) := Lib.hid (by omega)
  go_upto_region 2 with fail
  refine wp_region_lit ?_
  refine wpList_load_row rfl 24 (.tmp 3) rfl w.heap.size rfl 24 #[.int .i64 f.k, .int .i64 f.fr, .int .i64 f.tt, .int .i64 f.ep, .int .i64 f.sq, .int .i64 f.ac, .slice A n c] (0, 0) _ (F_2.out) Try.underlying24 rfl (by kernel_rfl) ?_
  simp only [Act.put, List.setIfInBounds_toArray, List.set_cons_zero, List.set_cons_succ]
  go_wp2_with fail
  refine (HF.out _ RL_2.out).mono ?_
  rintro e w4 ⟨rfl, hb4⟩
  have RL_5 := Lib.hid (RL_2.out.bl hb4)
  have RM_5 := Lib.hid (RM_2.out.bl hb4)
  have F_5 := Lib.hid (F_2.out.bl hb4)
  have Bel_5 := Lib.hid (bel_bl Bel_2.out hb4)
  clear hb4
  rename_i hK
  refine hK _ _ ?_
  clear hK
  refine wpList_store_row rfl 24 (.tmp 3) (.tmp 16) rfl w.heap.size #[.int .i64 f.k, .int .i64 f.fr, .int .i64 f.tt, .int .i64 f.ep, .int .i64 f.sq, .int .i64 f.ac, .slice A M.length c] rfl rfl 24 #[.int .i64 f.k, .int .i64 f.fr, .int .i64 f.tt, .int .i64 f.ep, .int .i64 f.sq, .int .i64 f.ac, .slice A n c] (F_5.out) (by kernel_rfl) rfl (by simp [Value.oneCell']) ?_
  obtain ⟨v6, gv6⟩ : ∃ x, w4.setRow w.heap.size #[.int .i64 f.k, .int .i64 f.fr, .int .i64 f.tt, .int .i64 f.ep, .int .i64 f.sq, .int .i64 f.ac, .slice A M.length c] = x := ⟨_, rfl⟩
  have RL_6 := Lib.hid (show RdS v6 v6.heap.size _ _ _ _ _ from gv6 ▸ RdS.row_far RL_5.out (g := w.heap.size) (fun a ha hn e => by have h1 := LL.out a ha hn; have h2 := LO_F_3.out; have h3 := Option.some.inj e; omega) #[.int .i64 f.k, .int .i64 f.fr, .int .i64 f.tt, .int .i64 f.ep, .int .i64 f.sq, .int .i64 f.ac, .slice A M.length c])
  have RM_6 := Lib.hid (show RdS v6 v6.heap.size _ _ _ _ _ from gv6 ▸ RdS.row_far RM_5.out (g := w.heap.size) (fun a ha hn e => by have h1 := LM.out a ha hn; have h2 := LO_F_3.out; have h3 := Option.some.inj e; omega) #[.int .i64 f.k, .int .i64 f.fr, .int .i64 f.tt, .int .i64 f.ep, .int .i64 f.sq, .int .i64 f.ac, .slice A M.length c])
  have F_6 : RowKit.Hid (Whole v6 w.heap.size 24 [.int .i64 f.k, .int .i64 f.fr, .int .i64 f.tt, .int .i64 f.ep, .int .i64 f.sq, .int .i64 f.ac, .slice A M.length c]) := Lib.hid (gv6 ▸ Whole.row F_5.out [.int .i64 f.k, .int .i64 f.fr, .int .i64 f.tt, .int .i64 f.ep, .int .i64 f.sq, .int .i64 f.ac, .slice A M.length c])
  have Bel_6 : RowKit.Hid (Below w.heap.size w v6) := Lib.hid (gv6 ▸ below_row Bel_5.out LO_F_3.out _)
  rw [gv6]
  clear gv6
  clear HF
  have lw7 : (v6).cell? ⟨w.heap.size, 6, none⟩ = some (.slice A M.length c) := F_6.out.cell (i := 6) rfl
  go_wp2
  go_ret
  exact ⟨rfl, Bel_6.out⟩

set_option maxRecDepth 100000 in
set_option maxHeartbeats 4000000 in
theorem apart_not (f : FrT) (A : Option Addr) (n c : Nat) (L : List Nat) (y v : Int) (w : World) (h : RdS w w.heap.size 1 A n c (rowsV f8 L)) (hb : ∀ b ∈ L, b < 256) (hn : n ≤ maxLen) (hM : ¬ 1000 < (L.take 16400).length) (hz : mayF f (L.take 16400).length ≠ 0) :
    Calls Try.prog 6 #[.agg #[.int .i64 f.k, .int .i64 f.fr, .int .i64 f.tt, .int .i64 f.ep, .int .i64 f.sq, .int .i64 f.ac, .slice A n c], .int .i64 y, .int .i64 v] w fun e w' => e = .returned (.bool true) ∧ Below w.heap.size w w' := by
  have hl := h.rlen f8_len (by decide)
  obtain ⟨M, gM⟩ : ∃ x, L.take 16400 = x := ⟨_, rfl⟩
  have hF := few15 f A n c L
  have hRM := h.fewer8 16400
  rw [gM] at hF hRM
  have HbM : RowKit.Hid (∀ b ∈ M, b < 256) := Lib.hid (gM ▸ fun b h => hb b (List.mem_of_mem_take h))
  have hM16 : M.length ≤ 16400 := by rw [← gM, List.length_take]; omega
  have HF : RowKit.Hid _ := Lib.hid (fun w' (h' : RdS w' w'.heap.size 1 A n c (rowsV f8 L)) => hF w' h' hn)
  have RM := Lib.hid hRM
  have LM : RowKit.Hid (∀ a, A = some a → 0 < M.length → a.block < w.heap.size) := Lib.hid hRM.low
  have RL := Lib.hid h
  have LL : RowKit.Hid (∀ a, A = some a → 0 < n → a.block < w.heap.size) := Lib.hid h.low
  clear hF hRM h hb hn hl
  rw [gM] at hM
  try rw [gM] at hz
  have hM1 : ¬ (1000 : Int) < (M.length : Int) := by omega
  have hPo := fun W => put_not f A M.length c W hz
  obtain ⟨z, gz⟩ : ∃ x, mayF f M.length = x := ⟨_, rfl⟩
  rw [gz] at hPo hz
  have q : (z == 0) = false := beq_eq_false_iff_ne.2 hz
  have q' : (z != 0) = true := bne_iff_ne.2 hz
  have HPo := Lib.hid hPo
  clear gz hz hPo
  obtain ⟨i0, hi, hz0, hz1, hz2⟩ := info_parts_ info_u8
  clear gM
  unfold frCells at HF
  go_enter Try.func6, Try.ntmps6
  go_wp2_with fail
  refine (shown15 _).mono ?_
  rintro e w1 ⟨rfl, hb1⟩
  have RL_2 := Lib.hid ((RL.out.al (.cells #[.int .i64 f.k, .int .i64 f.fr, .int .i64 f.tt, .int .i64 f.ep, .int .i64 f.sq, .int .i64 f.ac, .slice A n c] 24)).bl hb1)
  have RM_2 := Lib.hid ((RM.out.al (.cells #[.int .i64 f.k, .int .i64 f.fr, .int .i64 f.tt, .int .i64 f.ep, .int .i64 f.sq, .int .i64 f.ac, .slice A n c] 24)).bl hb1)
  have F_2 := Lib.hid ((show Whole (w.alloc (.cells #[.int .i64 f.k, .int .i64 f.fr, .int .i64 f.tt, .int .i64 f.ep, .int .i64 f.sq, .int .i64 f.ac, .slice A n c] 24)) (w.heap.size) (24) ([.int .i64 f.k, .int .i64 f.fr, .int .i64 f.tt, .int .i64 f.ep, .int .i64 f.sq, .int .i64 f.ac, .slice A n c]) from Whole.new2 (by first | rfl | simp)).bl hb1)
  have Bel_2 := Lib.hid (bel_bl (bel_al (Below.refl _ w) (.cells #[.int .i64 f.k, .int .i64 f.fr, .int .i64 f.tt, .int .i64 f.ep, .int .i64 f.sq, .int .i64 f.ac, .slice A n c] 24)) hb1)
  clear hb1
  have LO_F_3 : RowKit.Hid (w.heap.size ≤ w.heap.size) := Lib.hid (by omega)
  go_upto_region 2 with fail
  refine wp_region_lit ?_
  refine wpList_load_row rfl 24 (.tmp 3) rfl w.heap.size rfl 24 #[.int .i64 f.k, .int .i64 f.fr, .int .i64 f.tt, .int .i64 f.ep, .int .i64 f.sq, .int .i64 f.ac, .slice A n c] (0, 0) _ (F_2.out) Try.underlying24 rfl (by kernel_rfl) ?_
  simp only [Act.put, List.setIfInBounds_toArray, List.set_cons_zero, List.set_cons_succ]
  go_wp2_with fail
  refine (HF.out _ RL_2.out).mono ?_
  rintro e w4 ⟨rfl, hb4⟩
  have RL_5 := Lib.hid (RL_2.out.bl hb4)
  have RM_5 := Lib.hid (RM_2.out.bl hb4)
  have F_5 := Lib.hid (F_2.out.bl hb4)
  have Bel_5 := Lib.hid (bel_bl Bel_2.out hb4)
  clear hb4
  rename_i hK
  refine hK _ _ ?_
  clear hK
  refine wpList_store_row rfl 24 (.tmp 3) (.tmp 16) rfl w.heap.size #[.int .i64 f.k, .int .i64 f.fr, .int .i64 f.tt, .int .i64 f.ep, .int .i64 f.sq, .int .i64 f.ac, .slice A M.length c] rfl rfl 24 #[.int .i64 f.k, .int .i64 f.fr, .int .i64 f.tt, .int .i64 f.ep, .int .i64 f.sq, .int .i64 f.ac, .slice A n c] (F_5.out) (by kernel_rfl) rfl (by simp [Value.oneCell']) ?_
  obtain ⟨v6, gv6⟩ : ∃ x, w4.setRow w.heap.size #[.int .i64 f.k, .int .i64 f.fr, .int .i64 f.tt, .int .i64 f.ep, .int .i64 f.sq, .int .i64 f.ac, .slice A M.length c] = x := ⟨_, rfl⟩
  have RL_6 := Lib.hid (show RdS v6 v6.heap.size _ _ _ _ _ from gv6 ▸ RdS.row_far RL_5.out (g := w.heap.size) (fun a ha hn e => by have h1 := LL.out a ha hn; have h2 := LO_F_3.out; have h3 := Option.some.inj e; omega) #[.int .i64 f.k, .int .i64 f.fr, .int .i64 f.tt, .int .i64 f.ep, .int .i64 f.sq, .int .i64 f.ac, .slice A M.length c])
  have RM_6 := Lib.hid (show RdS v6 v6.heap.size _ _ _ _ _ from gv6 ▸ RdS.row_far RM_5.out (g := w.heap.size) (fun a ha hn e => by have h1 := LM.out a ha hn; have h2 := LO_F_3.out; have h3 := Option.some.inj e; omega) #[.int .i64 f.k, .int .i64 f.fr, .int .i64 f.tt, .int .i64 f.ep, .int .i64 f.sq, .int .i64 f.ac, .slice A M.length c])
  have F_6 : RowKit.Hid (Whole v6 w.heap.size 24 [.int .i64 f.k, .int .i64 f.fr, .int .i64 f.tt, .int .i64 f.ep, .int .i64 f.sq, .int .i64 f.ac, .slice A M.length c]) := Lib.hid (gv6 ▸ Whole.row F_5.out [.int .i64 f.k, .int .i64 f.fr, .int .i64 f.tt, .int .i64 f.ep, .int .i64 f.sq, .int .i64 f.ac, .slice A M.length c])
  have Bel_6 : RowKit.Hid (Below w.heap.size w v6) := Lib.hid (gv6 ▸ below_row Bel_5.out LO_F_3.out _)
  rw [gv6]
  clear gv6
  clear HF
  have lw7 : (v6).cell? ⟨w.heap.size, 6, none⟩ = some (.slice A M.length c) := F_6.out.cell (i := 6) rfl
  go_upto_region 5 with fail
  clear lw7
  refine wp_region_lit ?_
  refine wpList_load_row rfl 24 (.tmp 3) rfl w.heap.size rfl 24 #[.int .i64 f.k, .int .i64 f.fr, .int .i64 f.tt, .int .i64 f.ep, .int .i64 f.sq, .int .i64 f.ac, .slice A M.length c] (0, 0) _ (F_6.out) Try.underlying24 rfl (by kernel_rfl) ?_
  simp only [Act.put, List.setIfInBounds_toArray, List.set_cons_zero, List.set_cons_succ]
  have HPc := Lib.hid (HPo.out v6 )
  unfold frCells at HPc
  go_wp2_with fail
  refine HPc.out.mono ?_
  rintro e wp3 ⟨rfl, hb3⟩
  have RM_8 := Lib.hid (RM_6.out.bl hb3)
  have F_8 := Lib.hid (F_6.out.bl hb3)
  have Bel_8 := Lib.hid (bel_bl Bel_6.out hb3)
  clear hb3 HPc
  go_wp2
  go_ret
  exact ⟨rfl, Bel_8.out⟩

set_option maxRecDepth 100000 in
set_option maxHeartbeats 4000000 in
theorem apart_yes (f : FrT) (A : Option Addr) (n c : Nat) (L : List Nat) (y v : Int) (w : World) (h : RdS w w.heap.size 1 A n c (rowsV f8 L)) (hb : ∀ b ∈ L, b < 256) (hn : n ≤ maxLen) (hM : ¬ 1000 < (L.take 16400).length) (hz : mayF f (L.take 16400).length = 0) :
    Calls Try.prog 6 #[.agg #[.int .i64 f.k, .int .i64 f.fr, .int .i64 f.tt, .int .i64 f.ep, .int .i64 f.sq, .int .i64 f.ac, .slice A n c], .int .i64 y, .int .i64 v] w fun e w' => e = .returned (.bool true) ∧ Below w.heap.size w w' := by
  have hl := h.rlen f8_len (by decide)
  obtain ⟨M, gM⟩ : ∃ x, L.take 16400 = x := ⟨_, rfl⟩
  have hF := few15 f A n c L
  have hRM := h.fewer8 16400
  rw [gM] at hF hRM
  have HbM : RowKit.Hid (∀ b ∈ M, b < 256) := Lib.hid (gM ▸ fun b h => hb b (List.mem_of_mem_take h))
  have hM16 : M.length ≤ 16400 := by rw [← gM, List.length_take]; omega
  have HF : RowKit.Hid _ := Lib.hid (fun w' (h' : RdS w' w'.heap.size 1 A n c (rowsV f8 L)) => hF w' h' hn)
  have RM := Lib.hid hRM
  have LM : RowKit.Hid (∀ a, A = some a → 0 < M.length → a.block < w.heap.size) := Lib.hid hRM.low
  have RL := Lib.hid h
  have LL : RowKit.Hid (∀ a, A = some a → 0 < n → a.block < w.heap.size) := Lib.hid h.low
  clear hF hRM h hb hn hl
  rw [gM] at hM
  try rw [gM] at hz
  have hM1 : ¬ (1000 : Int) < (M.length : Int) := by omega
  obtain ⟨nP, gnP⟩ : ∃ x, (putF f M).length = x := ⟨_, rfl⟩
  have HPo : RowKit.Hid (∀ W, RdS W W.heap.size 1 A M.length c (rowsV f8 M) → Calls Try.prog 11 #[.agg (frCells f A M.length c).toArray] W fun e w' => ∃ A' c', e = .returned (.tuple #[.slice A' nP c', .int .i64 0]) ∧ RdS w' w'.heap.size 1 A' nP c' (rowsV f8 (putF f M)) ∧ Below W.heap.size W w') := Lib.hid (fun W hr => (put_yes f A M.length c M W hz hr HbM.out).mono fun e w' ⟨A', c', h1, h2, _, h3⟩ => ⟨A', c', by rw [h1, gnP], by rw [← gnP]; exact h2, h3⟩)
  have HPl : RowKit.Hid (nP = 19 + M.length) := Lib.hid (by rw [← gnP, putF_len])
  have Hz := Lib.hid hz
  clear hz gnP
  obtain ⟨i0, hi, hz0, hz1, hz2⟩ := info_parts_ info_u8
  clear gM
  unfold frCells at HF
  go_enter Try.func6, Try.ntmps6
  go_wp2_with fail
  refine (shown15 _).mono ?_
  rintro e w1 ⟨rfl, hb1⟩
  have RL_2 := Lib.hid ((RL.out.al (.cells #[.int .i64 f.k, .int .i64 f.fr, .int .i64 f.tt, .int .i64 f.ep, .int .i64 f.sq, .int .i64 f.ac, .slice A n c] 24)).bl hb1)
  have RM_2 := Lib.hid ((RM.out.al (.cells #[.int .i64 f.k, .int .i64 f.fr, .int .i64 f.tt, .int .i64 f.ep, .int .i64 f.sq, .int .i64 f.ac, .slice A n c] 24)).bl hb1)
  have F_2 := Lib.hid ((show Whole (w.alloc (.cells #[.int .i64 f.k, .int .i64 f.fr, .int .i64 f.tt, .int .i64 f.ep, .int .i64 f.sq, .int .i64 f.ac, .slice A n c] 24)) (w.heap.size) (24) ([.int .i64 f.k, .int .i64 f.fr, .int .i64 f.tt, .int .i64 f.ep, .int .i64 f.sq, .int .i64 f.ac, .slice A n c]) from Whole.new2 (by first | rfl | simp)).bl hb1)
  have Bel_2 := Lib.hid (bel_bl (bel_al (Below.refl _ w) (.cells #[.int .i64 f.k, .int .i64 f.fr, .int .i64 f.tt, .int .i64 f.ep, .int .i64 f.sq, .int .i64 f.ac, .slice A n c] 24)) hb1)
  clear hb1
  have LO_F_3 : RowKit.Hid (w.heap.size ≤ w.heap.size) := Lib.hid (by omega)
  go_upto_region 2 with fail
  refine wp_region_lit ?_
  refine wpList_load_row rfl 24 (.tmp 3) rfl w.heap.size rfl 24 #[.int .i64 f.k, .int .i64 f.fr, .int .i64 f.tt, .int .i64 f.ep, .int .i64 f.sq, .int .i64 f.ac, .slice A n c] (0, 0) _ (F_2.out) Try.underlying24 rfl (by kernel_rfl) ?_
  simp only [Act.put, List.setIfInBounds_toArray, List.set_cons_zero, List.set_cons_succ]
  go_wp2_with fail
  refine (HF.out _ RL_2.out).mono ?_
  rintro e w4 ⟨rfl, hb4⟩
  have RL_5 := Lib.hid (RL_2.out.bl hb4)
  have RM_5 := Lib.hid (RM_2.out.bl hb4)
  have F_5 := Lib.hid (F_2.out.bl hb4)
  have Bel_5 := Lib.hid (bel_bl Bel_2.out hb4)
  clear hb4
  rename_i hK
  refine hK _ _ ?_
  clear hK
  refine wpList_store_row rfl 24 (.tmp 3) (.tmp 16) rfl w.heap.size #[.int .i64 f.k, .int .i64 f.fr, .int .i64 f.tt, .int .i64 f.ep, .int .i64 f.sq, .int .i64 f.ac, .slice A M.length c] rfl rfl 24 #[.int .i64 f.k, .int .i64 f.fr, .int .i64 f.tt, .int .i64 f.ep, .int .i64 f.sq, .int .i64 f.ac, .slice A n c] (F_5.out) (by kernel_rfl) rfl (by simp [Value.oneCell']) ?_
  obtain ⟨v6, gv6⟩ : ∃ x, w4.setRow w.heap.size #[.int .i64 f.k, .int .i64 f.fr, .int .i64 f.tt, .int .i64 f.ep, .int .i64 f.sq, .int .i64 f.ac, .slice A M.length c] = x := ⟨_, rfl⟩
  have RL_6 := Lib.hid (show RdS v6 v6.heap.size _ _ _ _ _ from gv6 ▸ RdS.row_far RL_5.out (g := w.heap.size) (fun a ha hn e => by have h1 := LL.out a ha hn; have h2 := LO_F_3.out; have h3 := Option.some.inj e; omega) #[.int .i64 f.k, .int .i64 f.fr, .int .i64 f.tt, .int .i64 f.ep, .int .i64 f.sq, .int .i64 f.ac, .slice A M.length c])
  have RM_6 := Lib.hid (show RdS v6 v6.heap.size _ _ _ _ _ from gv6 ▸ RdS.row_far RM_5.out (g := w.heap.size) (fun a ha hn e => by have h1 := LM.out a ha hn; have h2 := LO_F_3.out; have h3 := Option.some.inj e; omega) #[.int .i64 f.k, .int .i64 f.fr, .int .i64 f.tt, .int .i64 f.ep, .int .i64 f.sq, .int .i64 f.ac, .slice A M.length c])
  have F_6 : RowKit.Hid (Whole v6 w.heap.size 24 [.int .i64 f.k, .int .i64 f.fr, .int .i64 f.tt, .int .i64 f.ep, .int .i64 f.sq, .int .i64 f.ac, .slice A M.length c]) := Lib.hid (gv6 ▸ Whole.row F_5.out [.int .i64 f.k, .int .i64 f.fr, .int .i64 f.tt, .int .i64 f.ep, .int .i64 f.sq, .int .i64 f.ac, .slice A M.length c])
  have Bel_6 : RowKit.Hid (Below w.heap.size w v6) := Lib.hid (gv6 ▸ below_row Bel_5.out LO_F_3.out _)
  rw [gv6]
  clear gv6
  clear HF
  have lw7 : (v6).cell? ⟨w.heap.size, 6, none⟩ = some (.slice A M.length c) := F_6.out.cell (i := 6) rfl
  go_upto_region 5 with fail
  clear lw7
  refine wp_region_lit ?_
  refine wpList_load_row rfl 24 (.tmp 3) rfl w.heap.size rfl 24 #[.int .i64 f.k, .int .i64 f.fr, .int .i64 f.tt, .int .i64 f.ep, .int .i64 f.sq, .int .i64 f.ac, .slice A M.length c] (0, 0) _ (F_6.out) Try.underlying24 rfl (by kernel_rfl) ?_
  simp only [Act.put, List.setIfInBounds_toArray, List.set_cons_zero, List.set_cons_succ]
  have HPc := Lib.hid (HPo.out v6 RM_6.out)
  unfold frCells at HPc
  go_wp2_with fail
  refine HPc.out.mono ?_
  rintro e wp3 ⟨Aq, cq, rfl, hq, hb3⟩
  have RM_8 := Lib.hid (RM_6.out.bl hb3)
  have F_8 := Lib.hid (F_6.out.bl hb3)
  have Bel_8 := Lib.hid (bel_bl Bel_6.out hb3)
  have RA := Lib.hid hq
  clear hb3 HPc hq
  go_upto_region 8 with fail
  refine wp_region_lit ?_
  refine wpList_load_row rfl 24 (.tmp 3) rfl w.heap.size rfl 24 #[.int .i64 f.k, .int .i64 f.fr, .int .i64 f.tt, .int .i64 f.ep, .int .i64 f.sq, .int .i64 f.ac, .slice A M.length c] (0, 0) _ (F_8.out) Try.underlying24 rfl (by kernel_rfl) ?_
  simp only [Act.put, List.setIfInBounds_toArray, List.set_cons_zero, List.set_cons_succ]
  refine wl_new 10 rfl rfl rfl 24 (.tmp 35) rfl rfl #[.int .i64 0, .int .i64 0, .int .i64 0, .int .i64 0, .int .i64 0, .int .i64 0, .slice none 0 0] ?_ (#[.int .i64 f.k, .int .i64 f.fr, .int .i64 f.tt, .int .i64 f.ep, .int .i64 f.sq, .int .i64 f.ac, .slice A M.length c]) (by simp) rfl (by kernel_rfl) rfl (by simp [Value.oneCell']) ?_
  · go_simp; (try with_reducible rfl)
  simp only [Act.put, List.setIfInBounds_toArray, List.set_cons_zero, List.set_cons_succ]
  have NE_F_G_9 : RowKit.Hid (w.heap.size ≠ wp3.heap.size) := Lib.hid (by have := (F_8.out).lt; omega)
  have LO_G_9 : RowKit.Hid (w.heap.size ≤ wp3.heap.size) := Lib.hid (Bel_8.out).size
  have LT_RA_G_9 : RowKit.Hid (∀ a, Aq = some a → 0 < nP → a.block < wp3.heap.size) := Lib.hid (RdS.low RA.out)
  have RM_10 := Lib.hid ((RM_8.out.al (.cells (#[.int .i64 f.k, .int .i64 f.fr, .int .i64 f.tt, .int .i64 f.ep, .int .i64 f.sq, .int .i64 f.ac, .slice A M.length c]) 24)))
  have F_10 := Lib.hid ((F_8.out.al (.cells (#[.int .i64 f.k, .int .i64 f.fr, .int .i64 f.tt, .int .i64 f.ep, .int .i64 f.sq, .int .i64 f.ac, .slice A M.length c]) 24)))
  have RA_10 := Lib.hid ((RA.out.al (.cells (#[.int .i64 f.k, .int .i64 f.fr, .int .i64 f.tt, .int .i64 f.ep, .int .i64 f.sq, .int .i64 f.ac, .slice A M.length c]) 24)))
  have G_10 := Lib.hid ((show Whole (wp3.alloc (.cells (#[.int .i64 f.k, .int .i64 f.fr, .int .i64 f.tt, .int .i64 f.ep, .int .i64 f.sq, .int .i64 f.ac, .slice A M.length c]) 24)) (wp3.heap.size) (24) ([.int .i64 f.k, .int .i64 f.fr, .int .i64 f.tt, .int .i64 f.ep, .int .i64 f.sq, .int .i64 f.ac, .slice A M.length c]) from Whole.new2 (by first | rfl | simp)))
  have Bel_10 := Lib.hid (bel_al Bel_8.out (.cells (#[.int .i64 f.k, .int .i64 f.fr, .int .i64 f.tt, .int .i64 f.ep, .int .i64 f.sq, .int .i64 f.ac, .slice A M.length c]) 24))
  obtain ⟨v10, gv10⟩ : ∃ x, (wp3.alloc (.cells (#[.int .i64 f.k, .int .i64 f.fr, .int .i64 f.tt, .int .i64 f.ep, .int .i64 f.sq, .int .i64 f.ac, .slice A M.length c]) 24)) = x := ⟨_, rfl⟩
  rw [gv10] at RM_10 F_10 RA_10 G_10 Bel_10 ⊢
  clear gv10
  obtain ⟨g11, gg11⟩ : ∃ x, wp3.heap.size = x := ⟨_, rfl⟩
  rw [gg11] at G_10 LO_G_9 NE_F_G_9 LT_RA_G_9
  rw [gg11]
  clear gg11
  go_upto_block 0 with fail
  have HGf : RowKit.Hid (w.heap.size ≠ g11 ∧ w.heap.size ≤ g11) := Lib.hid ⟨NE_F_G_9.out, LO_G_9.out⟩
  go_cut [] from 36 (fun x => RowKit.Hid (∃ (Ag : Option Addr) (cg : Nat), Kept (From_ g11) v10 x ∧ Whole x g11 24 [.int .i64 (setF f y v).k, .int .i64 (setF f y v).fr, .int .i64 (setF f y v).tt, .int .i64 (setF f y v).ep, .int .i64 (setF f y v).sq, .int .i64 (setF f y v).ac, .slice Ag (setB M y v).length cg] ∧ RdS x x.heap.size 1 Ag (setB M y v).length cg (rowsV f8 (setB M y v))))
  case first =>
    by_cases h0 : y = 0
    · subst h0
      have cc := (G_10.out).cell (i := 0) rfl
      have ff := (G_10.out).free 0
      go_wp2_with fail
      go_meet
      exact Lib.hid ⟨A, c, (Kept.refl _ _).setCell (p := ⟨g11, 0, none⟩) (.inl (Nat.le_refl _)) _, (G_10.out).set_ 0 _, by rw [show setB M 0 v = M from by unfold setB; rw [if_pos (by decide)]]; exact RdS.far (RM_10.out) (p := ⟨g11, 0, none⟩) (fun hn a ha e => by have h1 := LM.out a ha hn; have h2 := HGf.out; have h3 : a.block = g11 := e; omega) _⟩
    by_cases h1 : y = 1
    · subst h1
      have cc := (G_10.out).cell (i := 1) rfl
      have ff := (G_10.out).free 1
      go_wp2_with fail
      go_meet
      exact Lib.hid ⟨A, c, (Kept.refl _ _).setCell (p := ⟨g11, 1, none⟩) (.inl (Nat.le_refl _)) _, (G_10.out).set_ 1 _, by rw [show setB M 1 v = M from by unfold setB; rw [if_pos (by decide)]]; exact RdS.far (RM_10.out) (p := ⟨g11, 1, none⟩) (fun hn a ha e => by have h1 := LM.out a ha hn; have h2 := HGf.out; have h3 : a.block = g11 := e; omega) _⟩
    by_cases h2 : y = 2
    · subst h2
      have cc := (G_10.out).cell (i := 2) rfl
      have ff := (G_10.out).free 2
      go_wp2_with fail
      go_meet
      exact Lib.hid ⟨A, c, (Kept.refl _ _).setCell (p := ⟨g11, 2, none⟩) (.inl (Nat.le_refl _)) _, (G_10.out).set_ 2 _, by rw [show setB M 2 v = M from by unfold setB; rw [if_pos (by decide)]]; exact RdS.far (RM_10.out) (p := ⟨g11, 2, none⟩) (fun hn a ha e => by have h1 := LM.out a ha hn; have h2 := HGf.out; have h3 : a.block = g11 := e; omega) _⟩
    by_cases h3 : y = 3
    · subst h3
      have cc := (G_10.out).cell (i := 3) rfl
      have ff := (G_10.out).free 3
      go_wp2_with fail
      go_meet
      exact Lib.hid ⟨A, c, (Kept.refl _ _).setCell (p := ⟨g11, 3, none⟩) (.inl (Nat.le_refl _)) _, (G_10.out).set_ 3 _, by rw [show setB M 3 v = M from by unfold setB; rw [if_pos (by decide)]]; exact RdS.far (RM_10.out) (p := ⟨g11, 3, none⟩) (fun hn a ha e => by have h1 := LM.out a ha hn; have h2 := HGf.out; have h3 : a.block = g11 := e; omega) _⟩
    by_cases h4 : y = 4
    · subst h4
      have cc := (G_10.out).cell (i := 4) rfl
      have ff := (G_10.out).free 4
      go_wp2_with fail
      go_meet
      exact Lib.hid ⟨A, c, (Kept.refl _ _).setCell (p := ⟨g11, 4, none⟩) (.inl (Nat.le_refl _)) _, (G_10.out).set_ 4 _, by rw [show setB M 4 v = M from by unfold setB; rw [if_pos (by decide)]]; exact RdS.far (RM_10.out) (p := ⟨g11, 4, none⟩) (fun hn a ha e => by have h1 := LM.out a ha hn; have h2 := HGf.out; have h3 : a.block = g11 := e; omega) _⟩
    by_cases h5 : y = 5
    · subst h5
      have cc := (G_10.out).cell (i := 5) rfl
      have ff := (G_10.out).free 5
      go_wp2_with fail
      go_meet
      exact Lib.hid ⟨A, c, (Kept.refl _ _).setCell (p := ⟨g11, 5, none⟩) (.inl (Nat.le_refl _)) _, (G_10.out).set_ 5 _, by rw [show setB M 5 v = M from by unfold setB; rw [if_pos (by decide)]]; exact RdS.far (RM_10.out) (p := ⟨g11, 5, none⟩) (fun hn a ha e => by have h1 := LM.out a ha hn; have h2 := HGf.out; have h3 : a.block = g11 := e; omega) _⟩
    have hb6 : setB M y v = M ++ [(v % 256).toNat] := by unfold setB; rw [if_neg (by omega)]
    have hs6 : setF f y v = f := by unfold setF; rw [if_neg h0, if_neg h1, if_neg h2, if_neg h3, if_neg h4, if_neg h5]
    have hy : ∀ k : Int, k = 0 ∨ k = 1 ∨ k = 2 ∨ k = 3 ∨ k = 4 ∨ k = 5 → (y == k) = false := fun k hk => beq_eq_false_iff_ne.2 (by omega)
    have y0 := hy 0 (by omega)
    have y1 := hy 1 (by omega)
    have y2 := hy 2 (by omega)
    have y3 := hy 3 (by omega)
    have y4 := hy 4 (by omega)
    have y5 := hy 5 (by omega)
    have Hb6 := Lib.hid hb6
    have Hs6 := Lib.hid hs6
    clear h0 h1 h2 h3 h4 h5 hb6 hs6 hy
    have cF6 : (v10.alloc (.cells #[] 5)).cell? ⟨w.heap.size, 6, none⟩ = some (.slice A M.length c) := (Whole.al F_10.out (.cells #[] 5)).cell (i := 6) rfl
    have hwv : IntKind.u8.wrap v = v % 256 := by rw [IntKind.wrap_u8]
    have hv0 : (((v % 256).toNat : Nat) : Int) = v % 256 := by omega
    have RMa := Lib.hid (RdS.al RM_10.out (.cells #[] 5))
    have GGa := Lib.hid (Whole.al G_10.out (.cells #[] 5))
    have HNR : RowKit.Hid (some g11 ≠ some v10.heap.size) := Lib.hid (fun e => by have h1 := Option.some.inj e; have h2 := (G_10.out).lt; omega)
    have Hv0 := Lib.hid hv0
    clear hv0
    go_wp2_with (first
      | (at_builtin
         refine wpList_push2 rfl (.tmp 37) (.tmp 39) _ rfl _ 5 i0 _ 1 1 Try.underlying22 hi hz0 hz1 hz2 rfl (by decide) _ _ _ rfl (Ow.new_ (cs := #[]) (Below.refl _ _) (Nat.le_refl _) (Nat.le_refl _) (Nat.zero_le _) rfl) _ _ _ _ _ rfl (RMa.out) (f8_all _) (by unfold maxLen; omega) (by omega) ?_
         intro v1 wp4 how1 hb4 hgr4
         rw [Nat.zero_add, List.nil_append] at how1
         have hg4 := Whole.grown GGa.out hgr4 HNR.out
         have HOW1 := Lib.hid how1
         have HG4 := Lib.hid hg4
         have HNE1 : RowKit.Hid (some g11 ≠ v1.ownBlock) := Lib.hid (fun e => by have h1 := (how1.own.lt _ e.symm).1; have h2 := (G_10.out).lt; omega)
         clear how1 hb4 hgr4 hg4)
      | (at_builtin
         refine wpList_push2 rfl (.tmp 40) (.tmp 43) _ rfl _ 5 i0 _ 1 1 Try.underlying22 hi hz0 hz1 hz2 rfl (by decide) _ _ _ rfl (HOW1.out.up (below1 _ _)) _ (some ⟨wp4.heap.size, 0, none⟩) 1 1 ([.int .u8 (v % 256)]) rfl (by exact RdS.new_ rfl (Nat.lt_succ_self _) rfl rfl) (by simp [Value.oneCell']) (by unfold maxLen; omega) (by omega) ?_
         intro v2 wp5 how2 hb5 hgr5
         have hg5 := Whole.grown (Whole.al HG4.out (.cells #[.int .u8 (v % 256)] 5)) hgr5 HNE1.out
         have hne2 : some g11 ≠ v2.ownBlock := fun e => by have h1 := (how2.own.lt _ e.symm).1; have h2 := (G_10.out).lt; omega
         have HOW2 := Lib.hid how2
         have HG5 := Lib.hid hg5
         obtain ⟨Ag, cg, hv2, hr5⟩ := how2.rds
         subst hv2
         have HNE2 : RowKit.Hid (some g11 ≠ (Value.slice Ag (M.length + 1) cg).ownBlock) := Lib.hid hne2
         have HR5 := Lib.hid hr5
         have ff6 := hg5.free 6
         have cc6 := hg5.cell (i := 6) rfl
         clear how2 hb5 hgr5 hg5 hne2 hr5))
    go_meet
    refine Lib.hid ⟨Ag, cg, (Kept.of_below HOW2.out.below).setCell (p := ⟨g11, 6, none⟩) (.inl (Nat.le_refl _)) _, ?_, ?_⟩
    · rw [Hs6.out, Hb6.out, List.length_append]; exact HG5.out.set_ 6 _
    · rw [Hb6.out, List.length_append, rowsV_app]
      have := HR5.out.far (p := ⟨g11, 6, none⟩) (fun hn a ha e => HNE2.out (by rw [ha]; exact congrArg some e.symm)) (.slice Ag (M.length + 1) cg)
      simpa [rowsV, f8, Hv0.out] using this
  case rest =>
    obtain ⟨Ag, cg, hk, hg, hr⟩ := hcut.out
    have HF4 := Lib.hid (hk.whole F_10.out (fun e => by have h1 := HGf.out; have h2 : g11 ≤ w.heap.size := e; omega))
    have HG4 := Lib.hid hg
    have HN4 := Lib.hid hr
    have HM4 := Lib.hid (RdS.kept_ne RM_10.out hk (fun a ha hn e => by have h1 := LM.out a ha hn; have h2 := HGf.out; have h3 : g11 ≤ a.block := e; omega))
    have HA4 := Lib.hid (RdS.kept_ne RA_10.out hk (fun a ha hn e => by have h1 := LT_RA_G_9.out a ha hn; have h3 : g11 ≤ a.block := e; omega))
    have HB4 : RowKit.Hid (Below w.heap.size w wc) := Lib.hid (Below.trans Bel_10.out (hk.below Bel_10.out.size (fun i hi e => by have h1 := HGf.out; have h3 : g11 ≤ i := e; omega)))
    have HbN : RowKit.Hid (∀ b ∈ setB M y v, b < 256) := Lib.hid (by
      unfold setB
      split
      · exact HbM.out
      · intro b hb
        rcases List.mem_append.1 hb with hb | hb
        · exact HbM.out b hb
        · simp at hb; omega)
    have HApb := Lib.hid (fun (hg : mayF (setF f y v) (setB M y v).length = 0) => apart_bool (f := f) (g := setF f y v) (M := M) (N := setB M y v) Hz.out hg HbM.out HbN.out)
    clear hcut hk hg hr
    obtain ⟨G, gG⟩ : ∃ x, setF f y v = x := ⟨_, rfl⟩
    obtain ⟨N, gN⟩ : ∃ x, setB M y v = x := ⟨_, rfl⟩
    rw [gG, gN] at HG4
    rw [gN] at HN4 HbN
    rw [gG, gN] at HApb
    clear gG gN
    have HPg := Lib.hid (puts_to G Ag cg N wc HN4.out HbN.out)
    have HPu : RowKit.Hid (mayF G N.length = 0 → putR G N = putF G N) := Lib.hid (fun h => by unfold putR; rw [if_pos h])
    unfold frCells at HPg
    obtain ⟨z, gz⟩ : ∃ x, mayF G N.length = x := ⟨_, rfl⟩
    rw [gz] at HPg HApb HPu
    clear gz
    go_upto_region 23 with fail
    refine wp_region_lit ?_
    refine wpList_load_row rfl 24 (.tmp 10) rfl g11 rfl 24 #[.int .i64 G.k, .int .i64 G.fr, .int .i64 G.tt, .int .i64 G.ep, .int .i64 G.sq, .int .i64 G.ac, .slice Ag N.length cg] (0, 0) _ HG4.out Try.underlying24 rfl (by kernel_rfl) ?_
    simp only [Act.put, List.setIfInBounds_toArray, List.set_cons_zero, List.set_cons_succ]
    go_wp2_with fail
    refine HPg.out.mono ?_
    rintro e W5 ⟨Ap, np, cp, rfl, hp, hb5⟩
    have HF5 := Lib.hid (HF4.out.below hb5)
    have HG5 := Lib.hid (HG4.out.below hb5)
    have HN5 := Lib.hid (HN4.out.bl hb5)
    have HM5 := Lib.hid (HM4.out.bl hb5)
    have HA5 := Lib.hid (HA4.out.bl hb5)
    have HB5 : RowKit.Hid (Below w.heap.size w W5) := Lib.hid (bel_bl HB4.out hb5)
    have HP5 := Lib.hid hp
    clear hb5 hp HF4 HG4 HN4 HM4 HA4 HB4 HPg
    have HSm := Lib.hid (same_any f G A Ag M.length c N.length cg M N W5 HM5.out HN5.out)
    obtain ⟨sm, gsm⟩ : ∃ x, sameF f G M N = x := ⟨_, rfl⟩
    rw [gsm] at HSm HApb
    unfold frCells at HSm
    clear gsm
    go_upto_region 24 with fail
    refine wp_region_lit ?_
    refine wpList_load_row rfl 24 (.tmp 3) rfl w.heap.size rfl 24 #[.int .i64 f.k, .int .i64 f.fr, .int .i64 f.tt, .int .i64 f.ep, .int .i64 f.sq, .int .i64 f.ac, .slice A M.length c] (0, 0) _ HF5.out Try.underlying24 rfl (by kernel_rfl) ?_
    simp only [Act.put, List.setIfInBounds_toArray, List.set_cons_zero, List.set_cons_succ]
    refine wpList_load_row rfl 24 (.tmp 10) rfl g11 rfl 24 #[.int .i64 G.k, .int .i64 G.fr, .int .i64 G.tt, .int .i64 G.ep, .int .i64 G.sq, .int .i64 G.ac, .slice Ag N.length cg] (0, 0) _ HG5.out Try.underlying24 rfl (by kernel_rfl) ?_
    simp only [Act.put, List.setIfInBounds_toArray, List.set_cons_zero, List.set_cons_succ]
    go_wp2_with fail
    refine HSm.out.mono ?_
    rintro e W6 ⟨rfl, hb6⟩
    have cf6 := (HF5.out.below hb6).cell (i := 6) (v := .slice A M.length c) rfl
    have hca := conv_txt (HA5.out.bl hb6)
    have hcb := conv_txt (HP5.out.bl hb6)
    have HB6 : RowKit.Hid (Below w.heap.size w W6) := Lib.hid (bel_bl HB5.out hb6)
    clear hb6 HF5 HG5 HN5 HM5 HA5 HB5 HP5 HSm
    have hnp : ((nP : Int) == 19 + (M.length : Int)) = true := by have := HPl.out; rw [beq_iff_eq]; omega
    by_cases hz : z = 0
    · have hap := HApb.out hz
      have hpu := HPu.out hz
      rw [hpu] at hcb
      subst hz
      obtain ⟨T1, gT1⟩ : ∃ x, txt (putF f M) = x := ⟨_, rfl⟩
      obtain ⟨T2, gT2⟩ : ∃ x, txt (putF G N) = x := ⟨_, rfl⟩
      rw [gT1] at hca
      rw [gT2] at hcb
      rw [gT1, gT2] at hap
      clear hpu gT1 gT2
      obtain ⟨b1, gb1⟩ : ∃ x, (T1.toList == T2.toList) = x := ⟨_, rfl⟩
      rw [gb1] at hap
      go_wp2
      go_ret
      exact ⟨rfl, HB6.out⟩
    · have q : (z == 0) = false := beq_eq_false_iff_ne.2 hz
      have q' : (z != 0) = true := bne_iff_ne.2 hz
      clear hz
      go_wp2
      go_ret
      exact ⟨rfl, HB6.out⟩

theorem law_apart (f : FrT) (A : Option Addr) (n c : Nat) (L : List Nat) (y v : Int) (w : World) (h : RdS w w.heap.size 1 A n c (rowsV f8 L)) (hb : ∀ b ∈ L, b < 256) (hn : n ≤ maxLen) :
    Calls Try.prog 6 #[.agg (frCells f A n c).toArray, .int .i64 y, .int .i64 v] w fun e w' => e = .returned (.bool true) ∧ Below w.heap.size w w' := by
  by_cases hM : 1000 < (L.take 16400).length
  · exact apart_far f A n c L y v w h hb hn hM
  · by_cases hz : mayF f (L.take 16400).length = 0
    · exact apart_yes f A n c L y v w h hb hn hM hz
    · exact apart_not f A n c L y v w h hb hn hM hz
end Go.Proofs.Ytgmjehejaailpaa
