/- The law FrameTakes. -/
import Derived.Test.YtgmjehejaailpaaFr19
namespace Go.Proofs.Ytgmjehejaailpaa
open Go.RowKit
set_option linter.unusedSimpArgs false
set_option linter.unusedVariables false

theorem take_t (A : Option Addr) (n c : Nat) (N : List Nat) (W : World) (F : FrT) (Bd : List Nat) (z : Int) (g : takeR N = (F, Bd, z)) (h : RdS W W.heap.size 1 A n c (rowsV f8 N)) (hb : ∀ b ∈ N, b < 256) (hn : n ≤ 100000) :
    Calls Try.prog 17 #[.slice A n c] W fun e w' => ∃ A c, e = .returned (.tuple #[.agg (frCells F A Bd.length c).toArray, .int .i64 z]) ∧ RdS w' w'.heap.size 1 A Bd.length c (rowsV f8 Bd) ∧ (∀ a, A = some a → 0 < Bd.length → W.heap.size ≤ a.block) ∧ Below W.heap.size W w' := by
  have := take_any A n c N W h hb (by unfold maxLen; omega)
  unfold GivesT at this
  rw [g] at this
  exact this
theorem rtake_t (A : Option Addr) (n c : Nat) (N : List Nat) (W : World) (F : FrT) (Bd : List Nat) (z : Int) (g : takeR N = (F, Bd, z)) (h : RdS W W.heap.size 1 A n c (rowsV f8 N)) (hb : ∀ b ∈ N, b < 256) (hn : n ≤ 100000) :
    Calls Try.prog 18 #[.slice A n c] W fun e w' => ∃ A c, e = .returned (.tuple #[.agg (frCells F A Bd.length c).toArray, .int .i64 z]) ∧ RdS w' w'.heap.size 1 A Bd.length c (rowsV f8 Bd) ∧ (∀ a, A = some a → 0 < Bd.length → W.heap.size ≤ a.block) ∧ Below W.heap.size W w' := by
  have := rtake_any A n c N W h hb hn
  unfold GivesT at this
  rw [g] at this
  exact this
set_option maxRecDepth 100000 in
set_option maxHeartbeats 4000000 in
theorem takes_a (A : Option Addr) (n c : Nat) (L : List Nat) (w : World) (h : RdS w w.heap.size 1 A n c (rowsV f8 L)) (hb : ∀ b ∈ L, b < 256) (h10 : n ≤ 1000) :
    Calls Try.prog 4 #[.slice A n c, .bool false] w fun e w' => e = .returned (.bool true) ∧ Below w.heap.size w w' := by
  have hl := h.rlen f8_len (by decide)
  have hcc := h.le
  have hRM := h.fewer8 1000
  have hml : (L.take 1000).length = n := by rw [List.length_take]; omega
  obtain ⟨M, gM⟩ : ∃ x, L.take 1000 = x := ⟨_, rfl⟩
  have hbM : ∀ b ∈ M, b < 256 := gM ▸ fun b h => hb b (List.mem_of_mem_take h)
  rw [gM] at hRM hml
  obtain ⟨i0, hi, hz0, hz1, hz2⟩ := info_parts_ info_u8
  have q1 : decide ((1000 : Int) < (n : Int)) = false := by first | exact decide_eq_true (by omega) | exact decide_eq_false (by omega)
  have hm1 : M.length ≤ 1000 := by omega
  have HE : RowKit.Hid (Value.slice A n c = Value.slice A M.length c) := Lib.hid (by rw [hml])
  have hx := crc_lt hbM
  obtain ⟨x, gx⟩ : ∃ x, crc M = x := ⟨_, rfl⟩
  rw [gx] at hx
  have HS := Lib.hid (fun W hr => gx ▸ rsum_any A M.length c M W hr hbM (by unfold maxLen; omega))
  have HbN : RowKit.Hid (∀ b ∈ M, b < 256) := Lib.hid (by exact hbM)
  have HlN : RowKit.Hid ((M).length ≤ 2000) := Lib.hid (by first | omega | (simp [le4]; omega))
  obtain ⟨N, gN⟩ : ∃ N, M = N := ⟨_, rfl⟩
  rw [gN] at HbN HlN
  have HN := Lib.hid gN
  obtain ⟨⟨F, Bd, z⟩, gT⟩ : ∃ y, takeR N = y := ⟨_, rfl⟩
  have HT := Lib.hid gT
  have HR0 := Lib.hid hRM
  have HbM := Lib.hid hbM
  clear gT gN gx hbM hRM hml h hb h10 hl gM
  go_enter Try.func4, Try.ntmps4
  go_wp2_with fail
  refine (shown15 _).mono ?_
  rintro e W1 ⟨rfl, hb1⟩
  have HB1 := Lib.hid hb1
  have HR1 := Lib.hid (HR0.out.bl hb1)
  clear hb1 HR0
  go_upto_region 4 with fail
  rw [HE.out]
  have HP1 : RowKit.Hid (Ow W1 W1.heap.size 5 1 (.slice (some ⟨W1.heap.size, 0, none⟩) 0 0) 0 [] (W1.alloc (.cells #[] 5))) := Lib.hid (Ow.new_ (cs := #[]) (Below.refl _ _) (Nat.le_refl _) (Nat.le_refl _) (Nat.zero_le _) rfl)
  have HR1a := Lib.hid (HR1.out.al (.cells #[] 5))
  go_upto_region 5 with (first
    | (at_builtin
       refine wpList_push2 rfl (.tmp 19) (.tmp 20) _ rfl _ 5 i0 _ 1 1 Try.underlying22 hi hz0 hz1 hz2 rfl (by decide) _ _ _ rfl (HP1.out) _ _ _ _ _ rfl (HR1a.out) (f8_all M) (by unfold maxLen; omega) (by omega) ?_
       intro v1 W2 how1 hb2 hgr
       rw [Nat.zero_add, List.nil_append] at how1
       obtain ⟨A2, c2, rfl, hr2⟩ := how1.rds
       have HP2 := Lib.hid how1
       have HB2 : RowKit.Hid (Below w.heap.size w W2) := Lib.hid (bel_bl HB1.out how1.below)
       have HR2 := Lib.hid (HR1.out.bl how1.below)
       clear how1 hb2 hgr hr2))
  clear HP1 HR1a HB1 HR1
  go_wp2_with fail
  refine (HS.out _ HR2.out).mono ?_
  rintro e W3 ⟨rfl, rfl⟩
  go_upto_region 8 with fail
  obtain ⟨nN, gnN⟩ : ∃ k, M.length = k := ⟨_, rfl⟩
  have hx4 := HP2.out
  rw [gnN, HN.out] at hx4
  rw [gnN]
  have HnN : RowKit.Hid (nN ≤ 2000) := Lib.hid (by omega)
  have HP5 := Lib.hid hx4
  have HB5 := HB2
  clear hx4 gnN
  obtain ⟨W4, gW4⟩ : ∃ x, W2 = x := ⟨_, rfl⟩
  obtain ⟨A4, gA4⟩ : ∃ x, A2 = x := ⟨_, rfl⟩
  obtain ⟨c4, gc4⟩ : ∃ x, c2 = x := ⟨_, rfl⟩
  rw [gW4] at HP5 HB5 ⊢
  rw [gA4, gc4] at HP5 ⊢
  clear gW4 gA4 gc4
  clear HB2 HP2 HR2 HS
  have HQ5 := Lib.hid (by obtain ⟨A5, c5, e5, hr5⟩ := HP5.out.rds; injection e5 with e1 _ e3; subst e1 e3; exact hr5 : RdS W4 W4.heap.size 1 A4 nN c4 (rowsV f8 N))
  clear HP5
  have HP6 : RowKit.Hid (Ow W4 W4.heap.size 5 1 (.slice (some ⟨W4.heap.size, 0, none⟩) 0 0) 0 [] (W4.alloc (.cells #[] 5))) := Lib.hid (Ow.new_ (cs := #[]) (Below.refl _ _) (Nat.le_refl _) (Nat.le_refl _) (Nat.zero_le _) rfl)
  have HR6 := Lib.hid (HQ5.out.al (.cells #[] 5))
  go_wp2_with (first
    | (at_builtin
       refine wpList_push2 rfl (.tmp 40) (.tmp 41) _ rfl _ 5 i0 _ 1 1 Try.underlying22 hi hz0 hz1 hz2 rfl (by decide) _ _ _ rfl (HP6.out) _ _ _ _ _ rfl (HR6.out) (f8_all N) (by have := HnN.out; unfold maxLen; omega) (by have := HnN.out; omega) ?_
       intro v6 W6 how6 hb6 hgr
       rw [Nat.zero_add, List.nil_append] at how6
       obtain ⟨A6, c6, rfl, hr6⟩ := how6.rds
       have HB6 : RowKit.Hid (Below w.heap.size w W6) := Lib.hid (bel_bl HB5.out how6.below)
       have HQ6 := Lib.hid (HQ5.out.bl how6.below)
       have HU6 := Lib.hid hr6
       clear how6 hb6 hgr hr6))
  refine (take_t A6 nN c6 N W6 F Bd z HT.out HU6.out HbN.out (by have := HnN.out; omega)).mono ?_
  rintro e W7 ⟨A7, c7, rfl, hr7, -, hb7⟩
  have HB7 : RowKit.Hid (Below w.heap.size w W7) := Lib.hid (bel_bl HB6.out hb7)
  have HQ7 := Lib.hid (HQ6.out.bl hb7)
  have HX7 := Lib.hid hr7
  clear hb7 hr7 HB6 HQ6 HU6 HP6 HR6 HB5 HQ5
  unfold frCells
  go_upto_region 9 with fail
  have HO8 : RowKit.Hid (Whole (W7.alloc (.cells #[.int .i64 F.k, .int .i64 F.fr, .int .i64 F.tt, .int .i64 F.ep, .int .i64 F.sq, .int .i64 F.ac, .slice A7 Bd.length c7] 24)) W7.heap.size 24 [.int .i64 F.k, .int .i64 F.fr, .int .i64 F.tt, .int .i64 F.ep, .int .i64 F.sq, .int .i64 F.ac, .slice A7 Bd.length c7]) := Lib.hid (Whole.new_ _ _ [.int .i64 F.k, .int .i64 F.fr, .int .i64 F.tt, .int .i64 F.ep, .int .i64 F.sq, .int .i64 F.ac, .slice A7 Bd.length c7])
  have HB8 : RowKit.Hid (Below w.heap.size w (W7.alloc (.cells #[.int .i64 F.k, .int .i64 F.fr, .int .i64 F.tt, .int .i64 F.ep, .int .i64 F.sq, .int .i64 F.ac, .slice A7 Bd.length c7] 24))) := Lib.hid (bel_al HB7.out _)
  have HQ8 := Lib.hid (HQ7.out.al (.cells #[.int .i64 F.k, .int .i64 F.fr, .int .i64 F.tt, .int .i64 F.ep, .int .i64 F.sq, .int .i64 F.ac, .slice A7 Bd.length c7] 24))
  have HX8 := Lib.hid (HX7.out.al (.cells #[.int .i64 F.k, .int .i64 F.fr, .int .i64 F.tt, .int .i64 F.ep, .int .i64 F.sq, .int .i64 F.ac, .slice A7 Bd.length c7] 24))
  obtain ⟨W8, gW8⟩ : ∃ x, W7.alloc (.cells #[.int .i64 F.k, .int .i64 F.fr, .int .i64 F.tt, .int .i64 F.ep, .int .i64 F.sq, .int .i64 F.ac, .slice A7 Bd.length c7] 24) = x := ⟨_, rfl⟩
  obtain ⟨g8, gg8⟩ : ∃ x, W7.heap.size = x := ⟨_, rfl⟩
  rw [gW8] at HO8 HB8 HQ8 HX8 ⊢
  rw [gg8] at HO8 ⊢
  clear gW8 gg8 HB7 HQ7 HX7
  go_wp2_with fail
  refine (rtake_t A4 nN c4 N W8 F Bd z HT.out HQ8.out HbN.out (by have := HnN.out; omega)).mono ?_
  rintro e W9 ⟨A9, c9, rfl, hr9, -, hb9⟩
  have HB9 : RowKit.Hid (Below w.heap.size w W9) := Lib.hid (bel_bl HB8.out hb9)
  have HO9 := Lib.hid (HO8.out.below hb9)
  have HX9 := Lib.hid (HX8.out.bl hb9)
  have HY9 := Lib.hid hr9
  clear hb9 hr9 HB8 HQ8 HO8 HX8
  unfold frCells
  go_upto_region 10 with fail
  have HOb : RowKit.Hid (Whole (W9.alloc (.cells #[.int .i64 F.k, .int .i64 F.fr, .int .i64 F.tt, .int .i64 F.ep, .int .i64 F.sq, .int .i64 F.ac, .slice A9 Bd.length c9] 24)) W9.heap.size 24 [.int .i64 F.k, .int .i64 F.fr, .int .i64 F.tt, .int .i64 F.ep, .int .i64 F.sq, .int .i64 F.ac, .slice A9 Bd.length c9]) := Lib.hid (Whole.new_ _ _ [.int .i64 F.k, .int .i64 F.fr, .int .i64 F.tt, .int .i64 F.ep, .int .i64 F.sq, .int .i64 F.ac, .slice A9 Bd.length c9])
  have HOa := Lib.hid (HO9.out.al (.cells #[.int .i64 F.k, .int .i64 F.fr, .int .i64 F.tt, .int .i64 F.ep, .int .i64 F.sq, .int .i64 F.ac, .slice A9 Bd.length c9] 24))
  have HBa : RowKit.Hid (Below w.heap.size w (W9.alloc (.cells #[.int .i64 F.k, .int .i64 F.fr, .int .i64 F.tt, .int .i64 F.ep, .int .i64 F.sq, .int .i64 F.ac, .slice A9 Bd.length c9] 24))) := Lib.hid (bel_al HB9.out _)
  have HXa := Lib.hid (HX9.out.al (.cells #[.int .i64 F.k, .int .i64 F.fr, .int .i64 F.tt, .int .i64 F.ep, .int .i64 F.sq, .int .i64 F.ac, .slice A9 Bd.length c9] 24))
  have HYa := Lib.hid (HY9.out.al (.cells #[.int .i64 F.k, .int .i64 F.fr, .int .i64 F.tt, .int .i64 F.ep, .int .i64 F.sq, .int .i64 F.ac, .slice A9 Bd.length c9] 24))
  obtain ⟨Wa, gWa⟩ : ∃ x, W9.alloc (.cells #[.int .i64 F.k, .int .i64 F.fr, .int .i64 F.tt, .int .i64 F.ep, .int .i64 F.sq, .int .i64 F.ac, .slice A9 Bd.length c9] 24) = x := ⟨_, rfl⟩
  obtain ⟨ga, gga⟩ : ∃ x, W9.heap.size = x := ⟨_, rfl⟩
  rw [gWa] at HOb HOa HBa HXa HYa ⊢
  rw [gga] at HOb ⊢
  clear gWa gga HB9 HO9 HX9 HY9
  refine wp_region_lit ?_
  refine wpList_load_row rfl 24 (.tmp 8) rfl g8 rfl 24 #[.int .i64 F.k, .int .i64 F.fr, .int .i64 F.tt, .int .i64 F.ep, .int .i64 F.sq, .int .i64 F.ac, .slice A7 Bd.length c7] (0, 0) _ HOa.out Try.underlying24 rfl (by kernel_rfl) ?_
  simp only [Act.put, List.setIfInBounds_toArray, List.set_cons_zero, List.set_cons_succ]
  refine wpList_load_row rfl 24 (.tmp 10) rfl ga rfl 24 #[.int .i64 F.k, .int .i64 F.fr, .int .i64 F.tt, .int .i64 F.ep, .int .i64 F.sq, .int .i64 F.ac, .slice A9 Bd.length c9] (0, 0) _ HOb.out Try.underlying24 rfl (by kernel_rfl) ?_
  simp only [Act.put, List.setIfInBounds_toArray, List.set_cons_zero, List.set_cons_succ]
  have HSm := Lib.hid (same_any F F A7 A9 Bd.length c7 Bd.length c9 Bd Bd Wa HXa.out HYa.out)
  rw [sameF_self] at HSm
  unfold frCells at HSm
  go_wp2_with fail
  refine HSm.out.mono ?_
  rintro e Wb ⟨rfl, hbb⟩
  have HBb : RowKit.Hid (Below w.heap.size w Wb) := Lib.hid (bel_bl HBa.out hbb)
  clear hbb
  go_wp2
  go_ret
  exact ⟨rfl, HBb.out⟩
set_option maxRecDepth 100000 in
set_option maxHeartbeats 4000000 in
theorem takes_b (A : Option Addr) (n c : Nat) (L : List Nat) (w : World) (h : RdS w w.heap.size 1 A n c (rowsV f8 L)) (hb : ∀ b ∈ L, b < 256) (h10 : 1000 < n) :
    Calls Try.prog 4 #[.slice A n c, .bool false] w fun e w' => e = .returned (.bool true) ∧ Below w.heap.size w w' := by
  have hl := h.rlen f8_len (by decide)
  have hcc := h.le
  have hRM := h.fewer8 1000
  have hml : (L.take 1000).length = 1000 := by rw [List.length_take]; omega
  obtain ⟨M, gM⟩ : ∃ x, L.take 1000 = x := ⟨_, rfl⟩
  have hbM : ∀ b ∈ M, b < 256 := gM ▸ fun b h => hb b (List.mem_of_mem_take h)
  rw [gM] at hRM hml
  obtain ⟨i0, hi, hz0, hz1, hz2⟩ := info_parts_ info_u8
  have q1 : decide ((1000 : Int) < (n : Int)) = true := by first | exact decide_eq_true (by omega) | exact decide_eq_false (by omega)
  have hm1 : M.length ≤ 1000 := by omega
  have HE : RowKit.Hid (Value.slice A 1000 c = Value.slice A M.length c) := Lib.hid (by rw [hml])
  have hc10 : 1000 ≤ c := by omega
  have hx := crc_lt hbM
  obtain ⟨x, gx⟩ : ∃ x, crc M = x := ⟨_, rfl⟩
  rw [gx] at hx
  have HS := Lib.hid (fun W hr => gx ▸ rsum_any A M.length c M W hr hbM (by unfold maxLen; omega))
  have HbN : RowKit.Hid (∀ b ∈ M, b < 256) := Lib.hid (by exact hbM)
  have HlN : RowKit.Hid ((M).length ≤ 2000) := Lib.hid (by first | omega | (simp [le4]; omega))
  obtain ⟨N, gN⟩ : ∃ N, M = N := ⟨_, rfl⟩
  rw [gN] at HbN HlN
  have HN := Lib.hid gN
  obtain ⟨⟨F, Bd, z⟩, gT⟩ : ∃ y, takeR N = y := ⟨_, rfl⟩
  have HT := Lib.hid gT
  have HR0 := Lib.hid hRM
  have HbM := Lib.hid hbM
  clear gT gN gx hbM hRM hml h hb h10 hl gM
  go_enter Try.func4, Try.ntmps4
  go_wp2_with fail
  refine (shown15 _).mono ?_
  rintro e W1 ⟨rfl, hb1⟩
  have HB1 := Lib.hid hb1
  have HR1 := Lib.hid (HR0.out.bl hb1)
  clear hb1 HR0
  go_upto_region 4 with fail
  rw [HE.out]
  have HP1 : RowKit.Hid (Ow W1 W1.heap.size 5 1 (.slice (some ⟨W1.heap.size, 0, none⟩) 0 0) 0 [] (W1.alloc (.cells #[] 5))) := Lib.hid (Ow.new_ (cs := #[]) (Below.refl _ _) (Nat.le_refl _) (Nat.le_refl _) (Nat.zero_le _) rfl)
  have HR1a := Lib.hid (HR1.out.al (.cells #[] 5))
  go_upto_region 5 with (first
    | (at_builtin
       refine wpList_push2 rfl (.tmp 19) (.tmp 20) _ rfl _ 5 i0 _ 1 1 Try.underlying22 hi hz0 hz1 hz2 rfl (by decide) _ _ _ rfl (HP1.out) _ _ _ _ _ rfl (HR1a.out) (f8_all M) (by unfold maxLen; omega) (by omega) ?_
       intro v1 W2 how1 hb2 hgr
       rw [Nat.zero_add, List.nil_append] at how1
       obtain ⟨A2, c2, rfl, hr2⟩ := how1.rds
       have HP2 := Lib.hid how1
       have HB2 : RowKit.Hid (Below w.heap.size w W2) := Lib.hid (bel_bl HB1.out how1.below)
       have HR2 := Lib.hid (HR1.out.bl how1.below)
       clear how1 hb2 hgr hr2))
  clear HP1 HR1a HB1 HR1
  go_wp2_with fail
  refine (HS.out _ HR2.out).mono ?_
  rintro e W3 ⟨rfl, rfl⟩
  go_upto_region 8 with fail
  obtain ⟨nN, gnN⟩ : ∃ k, M.length = k := ⟨_, rfl⟩
  have hx4 := HP2.out
  rw [gnN, HN.out] at hx4
  rw [gnN]
  have HnN : RowKit.Hid (nN ≤ 2000) := Lib.hid (by omega)
  have HP5 := Lib.hid hx4
  have HB5 := HB2
  clear hx4 gnN
  obtain ⟨W4, gW4⟩ : ∃ x, W2 = x := ⟨_, rfl⟩
  obtain ⟨A4, gA4⟩ : ∃ x, A2 = x := ⟨_, rfl⟩
  obtain ⟨c4, gc4⟩ : ∃ x, c2 = x := ⟨_, rfl⟩
  rw [gW4] at HP5 HB5 ⊢
  rw [gA4, gc4] at HP5 ⊢
  clear gW4 gA4 gc4
  clear HB2 HP2 HR2 HS
  have HQ5 := Lib.hid (by obtain ⟨A5, c5, e5, hr5⟩ := HP5.out.rds; injection e5 with e1 _ e3; subst e1 e3; exact hr5 : RdS W4 W4.heap.size 1 A4 nN c4 (rowsV f8 N))
  clear HP5
  have HP6 : RowKit.Hid (Ow W4 W4.heap.size 5 1 (.slice (some ⟨W4.heap.size, 0, none⟩) 0 0) 0 [] (W4.alloc (.cells #[] 5))) := Lib.hid (Ow.new_ (cs := #[]) (Below.refl _ _) (Nat.le_refl _) (Nat.le_refl _) (Nat.zero_le _) rfl)
  have HR6 := Lib.hid (HQ5.out.al (.cells #[] 5))
  go_wp2_with (first
    | (at_builtin
       refine wpList_push2 rfl (.tmp 40) (.tmp 41) _ rfl _ 5 i0 _ 1 1 Try.underlying22 hi hz0 hz1 hz2 rfl (by decide) _ _ _ rfl (HP6.out) _ _ _ _ _ rfl (HR6.out) (f8_all N) (by have := HnN.out; unfold maxLen; omega) (by have := HnN.out; omega) ?_
       intro v6 W6 how6 hb6 hgr
       rw [Nat.zero_add, List.nil_append] at how6
       obtain ⟨A6, c6, rfl, hr6⟩ := how6.rds
       have HB6 : RowKit.Hid (Below w.heap.size w W6) := Lib.hid (bel_bl HB5.out how6.below)
       have HQ6 := Lib.hid (HQ5.out.bl how6.below)
       have HU6 := Lib.hid hr6
       clear how6 hb6 hgr hr6))
  refine (take_t A6 nN c6 N W6 F Bd z HT.out HU6.out HbN.out (by have := HnN.out; omega)).mono ?_
  rintro e W7 ⟨A7, c7, rfl, hr7, -, hb7⟩
  have HB7 : RowKit.Hid (Below w.heap.size w W7) := Lib.hid (bel_bl HB6.out hb7)
  have HQ7 := Lib.hid (HQ6.out.bl hb7)
  have HX7 := Lib.hid hr7
  clear hb7 hr7 HB6 HQ6 HU6 HP6 HR6 HB5 HQ5
  unfold frCells
  go_upto_region 9 with fail
  have HO8 : RowKit.Hid (Whole (W7.alloc (.cells #[.int .i64 F.k, .int .i64 F.fr, .int .i64 F.tt, .int .i64 F.ep, .int .i64 F.sq, .int .i64 F.ac, .slice A7 Bd.length c7] 24)) W7.heap.size 24 [.int .i64 F.k, .int .i64 F.fr, .int .i64 F.tt, .int .i64 F.ep, .int .i64 F.sq, .int .i64 F.ac, .slice A7 Bd.length c7]) := Lib.hid (Whole.new_ _ _ [.int .i64 F.k, .int .i64 F.fr, .int .i64 F.tt, .int .i64 F.ep, .int .i64 F.sq, .int .i64 F.ac, .slice A7 Bd.length c7])
  have HB8 : RowKit.Hid (Below w.heap.size w (W7.alloc (.cells #[.int .i64 F.k, .int .i64 F.fr, .int .i64 F.tt, .int .i64 F.ep, .int .i64 F.sq, .int .i64 F.ac, .slice A7 Bd.length c7] 24))) := Lib.hid (bel_al HB7.out _)
  have HQ8 := Lib.hid (HQ7.out.al (.cells #[.int .i64 F.k, .int .i64 F.fr, .int .i64 F.tt, .int .i64 F.ep, .int .i64 F.sq, .int .i64 F.ac, .slice A7 Bd.length c7] 24))
  have HX8 := Lib.hid (HX7.out.al (.cells #[.int .i64 F.k, .int .i64 F.fr, .int .i64 F.tt, .int .i64 F.ep, .int .i64 F.sq, .int .i64 F.ac, .slice A7 Bd.length c7] 24))
  obtain ⟨W8, gW8⟩ : ∃ x, W7.alloc (.cells #[.int .i64 F.k, .int .i64 F.fr, .int .i64 F.tt, .int .i64 F.ep, .int .i64 F.sq, .int .i64 F.ac, .slice A7 Bd.length c7] 24) = x := ⟨_, rfl⟩
  obtain ⟨g8, gg8⟩ : ∃ x, W7.heap.size = x := ⟨_, rfl⟩
  rw [gW8] at HO8 HB8 HQ8 HX8 ⊢
  rw [gg8] at HO8 ⊢
  clear gW8 gg8 HB7 HQ7 HX7
  go_wp2_with fail
  refine (rtake_t A4 nN c4 N W8 F Bd z HT.out HQ8.out HbN.out (by have := HnN.out; omega)).mono ?_
  rintro e W9 ⟨A9, c9, rfl, hr9, -, hb9⟩
  have HB9 : RowKit.Hid (Below w.heap.size w W9) := Lib.hid (bel_bl HB8.out hb9)
  have HO9 := Lib.hid (HO8.out.below hb9)
  have HX9 := Lib.hid (HX8.out.bl hb9)
  have HY9 := Lib.hid hr9
  clear hb9 hr9 HB8 HQ8 HO8 HX8
  unfold frCells
  go_upto_region 10 with fail
  have HOb : RowKit.Hid (Whole (W9.alloc (.cells #[.int .i64 F.k, .int .i64 F.fr, .int .i64 F.tt, .int .i64 F.ep, .int .i64 F.sq, .int .i64 F.ac, .slice A9 Bd.length c9] 24)) W9.heap.size 24 [.int .i64 F.k, .int .i64 F.fr, .int .i64 F.tt, .int .i64 F.ep, .int .i64 F.sq, .int .i64 F.ac, .slice A9 Bd.length c9]) := Lib.hid (Whole.new_ _ _ [.int .i64 F.k, .int .i64 F.fr, .int .i64 F.tt, .int .i64 F.ep, .int .i64 F.sq, .int .i64 F.ac, .slice A9 Bd.length c9])
  have HOa := Lib.hid (HO9.out.al (.cells #[.int .i64 F.k, .int .i64 F.fr, .int .i64 F.tt, .int .i64 F.ep, .int .i64 F.sq, .int .i64 F.ac, .slice A9 Bd.length c9] 24))
  have HBa : RowKit.Hid (Below w.heap.size w (W9.alloc (.cells #[.int .i64 F.k, .int .i64 F.fr, .int .i64 F.tt, .int .i64 F.ep, .int .i64 F.sq, .int .i64 F.ac, .slice A9 Bd.length c9] 24))) := Lib.hid (bel_al HB9.out _)
  have HXa := Lib.hid (HX9.out.al (.cells #[.int .i64 F.k, .int .i64 F.fr, .int .i64 F.tt, .int .i64 F.ep, .int .i64 F.sq, .int .i64 F.ac, .slice A9 Bd.length c9] 24))
  have HYa := Lib.hid (HY9.out.al (.cells #[.int .i64 F.k, .int .i64 F.fr, .int .i64 F.tt, .int .i64 F.ep, .int .i64 F.sq, .int .i64 F.ac, .slice A9 Bd.length c9] 24))
  obtain ⟨Wa, gWa⟩ : ∃ x, W9.alloc (.cells #[.int .i64 F.k, .int .i64 F.fr, .int .i64 F.tt, .int .i64 F.ep, .int .i64 F.sq, .int .i64 F.ac, .slice A9 Bd.length c9] 24) = x := ⟨_, rfl⟩
  obtain ⟨ga, gga⟩ : ∃ x, W9.heap.size = x := ⟨_, rfl⟩
  rw [gWa] at HOb HOa HBa HXa HYa ⊢
  rw [gga] at HOb ⊢
  clear gWa gga HB9 HO9 HX9 HY9
  refine wp_region_lit ?_
  refine wpList_load_row rfl 24 (.tmp 8) rfl g8 rfl 24 #[.int .i64 F.k, .int .i64 F.fr, .int .i64 F.tt, .int .i64 F.ep, .int .i64 F.sq, .int .i64 F.ac, .slice A7 Bd.length c7] (0, 0) _ HOa.out Try.underlying24 rfl (by kernel_rfl) ?_
  simp only [Act.put, List.setIfInBounds_toArray, List.set_cons_zero, List.set_cons_succ]
  refine wpList_load_row rfl 24 (.tmp 10) rfl ga rfl 24 #[.int .i64 F.k, .int .i64 F.fr, .int .i64 F.tt, .int .i64 F.ep, .int .i64 F.sq, .int .i64 F.ac, .slice A9 Bd.length c9] (0, 0) _ HOb.out Try.underlying24 rfl (by kernel_rfl) ?_
  simp only [Act.put, List.setIfInBounds_toArray, List.set_cons_zero, List.set_cons_succ]
  have HSm := Lib.hid (same_any F F A7 A9 Bd.length c7 Bd.length c9 Bd Bd Wa HXa.out HYa.out)
  rw [sameF_self] at HSm
  unfold frCells at HSm
  go_wp2_with fail
  refine HSm.out.mono ?_
  rintro e Wb ⟨rfl, hbb⟩
  have HBb : RowKit.Hid (Below w.heap.size w Wb) := Lib.hid (bel_bl HBa.out hbb)
  clear hbb
  go_wp2
  go_ret
  exact ⟨rfl, HBb.out⟩
set_option maxRecDepth 100000 in
set_option maxHeartbeats 4000000 in
theorem takes_c (A : Option Addr) (n c : Nat) (L : List Nat) (w : World) (h : RdS w w.heap.size 1 A n c (rowsV f8 L)) (hb : ∀ b ∈ L, b < 256) (h10 : n ≤ 1000) :
    Calls Try.prog 4 #[.slice A n c, .bool true] w fun e w' => e = .returned (.bool true) ∧ Below w.heap.size w w' := by
  have hl := h.rlen f8_len (by decide)
  have hcc := h.le
  have hRM := h.fewer8 1000
  have hml : (L.take 1000).length = n := by rw [List.length_take]; omega
  obtain ⟨M, gM⟩ : ∃ x, L.take 1000 = x := ⟨_, rfl⟩
  have hbM : ∀ b ∈ M, b < 256 := gM ▸ fun b h => hb b (List.mem_of_mem_take h)
  rw [gM] at hRM hml
  obtain ⟨i0, hi, hz0, hz1, hz2⟩ := info_parts_ info_u8
  have q1 : decide ((1000 : Int) < (n : Int)) = false := by first | exact decide_eq_true (by omega) | exact decide_eq_false (by omega)
  have hm1 : M.length ≤ 1000 := by omega
  have HE : RowKit.Hid (Value.slice A n c = Value.slice A M.length c) := Lib.hid (by rw [hml])
  have hx := crc_lt hbM
  obtain ⟨x, gx⟩ : ∃ x, crc M = x := ⟨_, rfl⟩
  rw [gx] at hx
  have HS := Lib.hid (fun W hr => gx ▸ rsum_any A M.length c M W hr hbM (by unfold maxLen; omega))
  have HbN : RowKit.Hid (∀ b ∈ M ++ le4 x, b < 256) := Lib.hid (by intro b hm; rcases List.mem_append.1 hm with hm | hm; exact hbM b hm; exact le4_lt _ b hm)
  have HlN : RowKit.Hid ((M ++ le4 x).length ≤ 2000) := Lib.hid (by first | omega | (simp [le4]; omega))
  obtain ⟨N, gN⟩ : ∃ N, M ++ le4 x = N := ⟨_, rfl⟩
  rw [gN] at HbN HlN
  have HN := Lib.hid gN
  obtain ⟨⟨F, Bd, z⟩, gT⟩ : ∃ y, takeR N = y := ⟨_, rfl⟩
  have HT := Lib.hid gT
  have HR0 := Lib.hid hRM
  have HbM := Lib.hid hbM
  have v0 : IntKind.u8.wrap ((x : Int)) = (x : Int) % 256 := by rw [IntKind.wrap_u8]
  have v1 : IntKind.u8.wrap ((x : Int) / 256) = (x : Int) / 256 % 256 := by rw [IntKind.wrap_u8]
  have v2 : IntKind.u8.wrap ((x : Int) / 65536) = (x : Int) / 65536 % 256 := by rw [IntKind.wrap_u8]
  have v3 : IntKind.u8.wrap ((x : Int) / 16777216) = (x : Int) / 16777216 % 256 := by rw [IntKind.wrap_u8]
  clear gT gN gx hbM hRM hml h hb h10 hl gM
  go_enter Try.func4, Try.ntmps4
  go_wp2_with fail
  refine (shown15 _).mono ?_
  rintro e W1 ⟨rfl, hb1⟩
  have HB1 := Lib.hid hb1
  have HR1 := Lib.hid (HR0.out.bl hb1)
  clear hb1 HR0
  go_upto_region 4 with fail
  rw [HE.out]
  have HP1 : RowKit.Hid (Ow W1 W1.heap.size 5 1 (.slice (some ⟨W1.heap.size, 0, none⟩) 0 0) 0 [] (W1.alloc (.cells #[] 5))) := Lib.hid (Ow.new_ (cs := #[]) (Below.refl _ _) (Nat.le_refl _) (Nat.le_refl _) (Nat.zero_le _) rfl)
  have HR1a := Lib.hid (HR1.out.al (.cells #[] 5))
  go_upto_region 5 with (first
    | (at_builtin
       refine wpList_push2 rfl (.tmp 19) (.tmp 20) _ rfl _ 5 i0 _ 1 1 Try.underlying22 hi hz0 hz1 hz2 rfl (by decide) _ _ _ rfl (HP1.out) _ _ _ _ _ rfl (HR1a.out) (f8_all M) (by unfold maxLen; omega) (by omega) ?_
       intro v1 W2 how1 hb2 hgr
       rw [Nat.zero_add, List.nil_append] at how1
       obtain ⟨A2, c2, rfl, hr2⟩ := how1.rds
       have HP2 := Lib.hid how1
       have HB2 : RowKit.Hid (Below w.heap.size w W2) := Lib.hid (bel_bl HB1.out how1.below)
       have HBa := HB1
       have HR2 := Lib.hid (HR1.out.bl how1.below)
       clear how1 hb2 hgr hr2))
  clear HP1 HR1a HB1 HR1
  go_wp2_with fail
  refine (HS.out _ HR2.out).mono ?_
  rintro e W3 ⟨rfl, rfl⟩
  go_upto_region 8 with (first
    | (at_builtin
       refine wpList_push2 rfl (.tmp 25) (.tmp 37) _ rfl _ 5 i0 _ 1 1 Try.underlying22 hi hz0 hz1 hz2 rfl (by decide) _ _ _ rfl (HP2.out.up (below1 _ _)) _ (some ⟨W2.heap.size, 0, none⟩) 4 4 ([.int .u8 ((x : Int) % 256), .int .u8 ((x : Int) / 256 % 256), .int .u8 ((x : Int) / 65536 % 256), .int .u8 ((x : Int) / 16777216 % 256)]) rfl (by exact RdS.new_ rfl (Nat.lt_succ_self _) rfl rfl) (by simp [Value.oneCell']) (by unfold maxLen; omega) (by omega) ?_
       intro v2 W4 how2 hb4 hgr
       obtain ⟨A4, c4, rfl, hr4⟩ := how2.rds
       have HP4 := Lib.hid how2
       clear how2 hb4 hgr hr4))
  have hrow : rowsV f8 M ++ [.int .u8 ((x : Int) % 256), .int .u8 ((x : Int) / 256 % 256), .int .u8 ((x : Int) / 65536 % 256), .int .u8 ((x : Int) / 16777216 % 256)] = rowsV f8 N := by
    rw [← HN.out, rowsV_app f8 M]
    simp [le4, rowsV, f8]
  have hx4 := HP4.out
  rw [hrow] at hx4
  obtain ⟨nN, gnN⟩ : ∃ k, M.length + 4 = k := ⟨_, rfl⟩
  rw [gnN] at hx4 ⊢
  have HnN : RowKit.Hid (nN ≤ 2000) := Lib.hid (by omega)
  have HP5 := Lib.hid hx4
  clear hrow hx4 gnN HP4 v0 v1 v2 v3
  have HB5 : RowKit.Hid (Below w.heap.size w W4) := Lib.hid (bel_bl HBa.out HP5.out.below)
  clear HB2 HP2 HR2 HS
  have HQ5 := Lib.hid (by obtain ⟨A5, c5, e5, hr5⟩ := HP5.out.rds; injection e5 with e1 _ e3; subst e1 e3; exact hr5 : RdS W4 W4.heap.size 1 A4 nN c4 (rowsV f8 N))
  clear HP5
  have HP6 : RowKit.Hid (Ow W4 W4.heap.size 5 1 (.slice (some ⟨W4.heap.size, 0, none⟩) 0 0) 0 [] (W4.alloc (.cells #[] 5))) := Lib.hid (Ow.new_ (cs := #[]) (Below.refl _ _) (Nat.le_refl _) (Nat.le_refl _) (Nat.zero_le _) rfl)
  have HR6 := Lib.hid (HQ5.out.al (.cells #[] 5))
  go_wp2_with (first
    | (at_builtin
       refine wpList_push2 rfl (.tmp 40) (.tmp 41) _ rfl _ 5 i0 _ 1 1 Try.underlying22 hi hz0 hz1 hz2 rfl (by decide) _ _ _ rfl (HP6.out) _ _ _ _ _ rfl (HR6.out) (f8_all N) (by have := HnN.out; unfold maxLen; omega) (by have := HnN.out; omega) ?_
       intro v6 W6 how6 hb6 hgr
       rw [Nat.zero_add, List.nil_append] at how6
       obtain ⟨A6, c6, rfl, hr6⟩ := how6.rds
       have HB6 : RowKit.Hid (Below w.heap.size w W6) := Lib.hid (bel_bl HB5.out how6.below)
       have HQ6 := Lib.hid (HQ5.out.bl how6.below)
       have HU6 := Lib.hid hr6
       clear how6 hb6 hgr hr6))
  refine (take_t A6 nN c6 N W6 F Bd z HT.out HU6.out HbN.out (by have := HnN.out; omega)).mono ?_
  rintro e W7 ⟨A7, c7, rfl, hr7, -, hb7⟩
  have HB7 : RowKit.Hid (Below w.heap.size w W7) := Lib.hid (bel_bl HB6.out hb7)
  have HQ7 := Lib.hid (HQ6.out.bl hb7)
  have HX7 := Lib.hid hr7
  clear hb7 hr7 HB6 HQ6 HU6 HP6 HR6 HB5 HQ5
  unfold frCells
  go_upto_region 9 with fail
  have HO8 : RowKit.Hid (Whole (W7.alloc (.cells #[.int .i64 F.k, .int .i64 F.fr, .int .i64 F.tt, .int .i64 F.ep, .int .i64 F.sq, .int .i64 F.ac, .slice A7 Bd.length c7] 24)) W7.heap.size 24 [.int .i64 F.k, .int .i64 F.fr, .int .i64 F.tt, .int .i64 F.ep, .int .i64 F.sq, .int .i64 F.ac, .slice A7 Bd.length c7]) := Lib.hid (Whole.new_ _ _ [.int .i64 F.k, .int .i64 F.fr, .int .i64 F.tt, .int .i64 F.ep, .int .i64 F.sq, .int .i64 F.ac, .slice A7 Bd.length c7])
  have HB8 : RowKit.Hid (Below w.heap.size w (W7.alloc (.cells #[.int .i64 F.k, .int .i64 F.fr, .int .i64 F.tt, .int .i64 F.ep, .int .i64 F.sq, .int .i64 F.ac, .slice A7 Bd.length c7] 24))) := Lib.hid (bel_al HB7.out _)
  have HQ8 := Lib.hid (HQ7.out.al (.cells #[.int .i64 F.k, .int .i64 F.fr, .int .i64 F.tt, .int .i64 F.ep, .int .i64 F.sq, .int .i64 F.ac, .slice A7 Bd.length c7] 24))
  have HX8 := Lib.hid (HX7.out.al (.cells #[.int .i64 F.k, .int .i64 F.fr, .int .i64 F.tt, .int .i64 F.ep, .int .i64 F.sq, .int .i64 F.ac, .slice A7 Bd.length c7] 24))
  obtain ⟨W8, gW8⟩ : ∃ x, W7.alloc (.cells #[.int .i64 F.k, .int .i64 F.fr, .int .i64 F.tt, .int .i64 F.ep, .int .i64 F.sq, .int .i64 F.ac, .slice A7 Bd.length c7] 24) = x := ⟨_, rfl⟩
  obtain ⟨g8, gg8⟩ : ∃ x, W7.heap.size = x := ⟨_, rfl⟩
  rw [gW8] at HO8 HB8 HQ8 HX8 ⊢
  rw [gg8] at HO8 ⊢
  clear gW8 gg8 HB7 HQ7 HX7
  go_wp2_with fail
  refine (rtake_t A4 nN c4 N W8 F Bd z HT.out HQ8.out HbN.out (by have := HnN.out; omega)).mono ?_
  rintro e W9 ⟨A9, c9, rfl, hr9, -, hb9⟩
  have HB9 : RowKit.Hid (Below w.heap.size w W9) := Lib.hid (bel_bl HB8.out hb9)
  have HO9 := Lib.hid (HO8.out.below hb9)
  have HX9 := Lib.hid (HX8.out.bl hb9)
  have HY9 := Lib.hid hr9
  clear hb9 hr9 HB8 HQ8 HO8 HX8
  unfold frCells
  go_upto_region 10 with fail
  have HOb : RowKit.Hid (Whole (W9.alloc (.cells #[.int .i64 F.k, .int .i64 F.fr, .int .i64 F.tt, .int .i64 F.ep, .int .i64 F.sq, .int .i64 F.ac, .slice A9 Bd.length c9] 24)) W9.heap.size 24 [.int .i64 F.k, .int .i64 F.fr, .int .i64 F.tt, .int .i64 F.ep, .int .i64 F.sq, .int .i64 F.ac, .slice A9 Bd.length c9]) := Lib.hid (Whole.new_ _ _ [.int .i64 F.k, .int .i64 F.fr, .int .i64 F.tt, .int .i64 F.ep, .int .i64 F.sq, .int .i64 F.ac, .slice A9 Bd.length c9])
  have HOa := Lib.hid (HO9.out.al (.cells #[.int .i64 F.k, .int .i64 F.fr, .int .i64 F.tt, .int .i64 F.ep, .int .i64 F.sq, .int .i64 F.ac, .slice A9 Bd.length c9] 24))
  have HBa : RowKit.Hid (Below w.heap.size w (W9.alloc (.cells #[.int .i64 F.k, .int .i64 F.fr, .int .i64 F.tt, .int .i64 F.ep, .int .i64 F.sq, .int .i64 F.ac, .slice A9 Bd.length c9] 24))) := Lib.hid (bel_al HB9.out _)
  have HXa := Lib.hid (HX9.out.al (.cells #[.int .i64 F.k, .int .i64 F.fr, .int .i64 F.tt, .int .i64 F.ep, .int .i64 F.sq, .int .i64 F.ac, .slice A9 Bd.length c9] 24))
  have HYa := Lib.hid (HY9.out.al (.cells #[.int .i64 F.k, .int .i64 F.fr, .int .i64 F.tt, .int .i64 F.ep, .int .i64 F.sq, .int .i64 F.ac, .slice A9 Bd.length c9] 24))
  obtain ⟨Wa, gWa⟩ : ∃ x, W9.alloc (.cells #[.int .i64 F.k, .int .i64 F.fr, .int .i64 F.tt, .int .i64 F.ep, .int .i64 F.sq, .int .i64 F.ac, .slice A9 Bd.length c9] 24) = x := ⟨_, rfl⟩
  obtain ⟨ga, gga⟩ : ∃ x, W9.heap.size = x := ⟨_, rfl⟩
  rw [gWa] at HOb HOa HBa HXa HYa ⊢
  rw [gga] at HOb ⊢
  clear gWa gga HB9 HO9 HX9 HY9
  refine wp_region_lit ?_
  refine wpList_load_row rfl 24 (.tmp 8) rfl g8 rfl 24 #[.int .i64 F.k, .int .i64 F.fr, .int .i64 F.tt, .int .i64 F.ep, .int .i64 F.sq, .int .i64 F.ac, .slice A7 Bd.length c7] (0, 0) _ HOa.out Try.underlying24 rfl (by kernel_rfl) ?_
  simp only [Act.put, List.setIfInBounds_toArray, List.set_cons_zero, List.set_cons_succ]
  refine wpList_load_row rfl 24 (.tmp 10) rfl ga rfl 24 #[.int .i64 F.k, .int .i64 F.fr, .int .i64 F.tt, .int .i64 F.ep, .int .i64 F.sq, .int .i64 F.ac, .slice A9 Bd.length c9] (0, 0) _ HOb.out Try.underlying24 rfl (by kernel_rfl) ?_
  simp only [Act.put, List.setIfInBounds_toArray, List.set_cons_zero, List.set_cons_succ]
  have HSm := Lib.hid (same_any F F A7 A9 Bd.length c7 Bd.length c9 Bd Bd Wa HXa.out HYa.out)
  rw [sameF_self] at HSm
  unfold frCells at HSm
  go_wp2_with fail
  refine HSm.out.mono ?_
  rintro e Wb ⟨rfl, hbb⟩
  have HBb : RowKit.Hid (Below w.heap.size w Wb) := Lib.hid (bel_bl HBa.out hbb)
  clear hbb
  go_wp2
  go_ret
  exact ⟨rfl, HBb.out⟩
set_option maxRecDepth 100000 in
set_option maxHeartbeats 4000000 in
theorem takes_d (A : Option Addr) (n c : Nat) (L : List Nat) (w : World) (h : RdS w w.heap.size 1 A n c (rowsV f8 L)) (hb : ∀ b ∈ L, b < 256) (h10 : 1000 < n) :
    Calls Try.prog 4 #[.slice A n c, .bool true] w fun e w' => e = .returned (.bool true) ∧ Below w.heap.size w w' := by
  have hl := h.rlen f8_len (by decide)
  have hcc := h.le
  have hRM := h.fewer8 1000
  have hml : (L.take 1000).length = 1000 := by rw [List.length_take]; omega
  obtain ⟨M, gM⟩ : ∃ x, L.take 1000 = x := ⟨_, rfl⟩
  have hbM : ∀ b ∈ M, b < 256 := gM ▸ fun b h => hb b (List.mem_of_mem_take h)
  rw [gM] at hRM hml
  obtain ⟨i0, hi, hz0, hz1, hz2⟩ := info_parts_ info_u8
  have q1 : decide ((1000 : Int) < (n : Int)) = true := by first | exact decide_eq_true (by omega) | exact decide_eq_false (by omega)
  have hm1 : M.length ≤ 1000 := by omega
  have HE : RowKit.Hid (Value.slice A 1000 c = Value.slice A M.length c) := Lib.hid (by rw [hml])
  have hc10 : 1000 ≤ c := by omega
  have hx := crc_lt hbM
  obtain ⟨x, gx⟩ : ∃ x, crc M = x := ⟨_, rfl⟩
  rw [gx] at hx
  have HS := Lib.hid (fun W hr => gx ▸ rsum_any A M.length c M W hr hbM (by unfold maxLen; omega))
  have HbN : RowKit.Hid (∀ b ∈ M ++ le4 x, b < 256) := Lib.hid (by intro b hm; rcases List.mem_append.1 hm with hm | hm; exact hbM b hm; exact le4_lt _ b hm)
  have HlN : RowKit.Hid ((M ++ le4 x).length ≤ 2000) := Lib.hid (by first | omega | (simp [le4]; omega))
  obtain ⟨N, gN⟩ : ∃ N, M ++ le4 x = N := ⟨_, rfl⟩
  rw [gN] at HbN HlN
  have HN := Lib.hid gN
  obtain ⟨⟨F, Bd, z⟩, gT⟩ : ∃ y, takeR N = y := ⟨_, rfl⟩
  have HT := Lib.hid gT
  have HR0 := Lib.hid hRM
  have HbM := Lib.hid hbM
  have v0 : IntKind.u8.wrap ((x : Int)) = (x : Int) % 256 := by rw [IntKind.wrap_u8]
  have v1 : IntKind.u8.wrap ((x : Int) / 256) = (x : Int) / 256 % 256 := by rw [IntKind.wrap_u8]
  have v2 : IntKind.u8.wrap ((x : Int) / 65536) = (x : Int) / 65536 % 256 := by rw [IntKind.wrap_u8]
  have v3 : IntKind.u8.wrap ((x : Int) / 16777216) = (x : Int) / 16777216 % 256 := by rw [IntKind.wrap_u8]
  clear gT gN gx hbM hRM hml h hb h10 hl gM
  go_enter Try.func4, Try.ntmps4
  go_wp2_with fail
  refine (shown15 _).mono ?_
  rintro e W1 ⟨rfl, hb1⟩
  have HB1 := Lib.hid hb1
  have HR1 := Lib.hid (HR0.out.bl hb1)
  clear hb1 HR0
  go_upto_region 4 with fail
  rw [HE.out]
  have HP1 : RowKit.Hid (Ow W1 W1.heap.size 5 1 (.slice (some ⟨W1.heap.size, 0, none⟩) 0 0) 0 [] (W1.alloc (.cells #[] 5))) := Lib.hid (Ow.new_ (cs := #[]) (Below.refl _ _) (Nat.le_refl _) (Nat.le_refl _) (Nat.zero_le _) rfl)
  have HR1a := Lib.hid (HR1.out.al (.cells #[] 5))
  go_upto_region 5 with (first
    | (at_builtin
       refine wpList_push2 rfl (.tmp 19) (.tmp 20) _ rfl _ 5 i0 _ 1 1 Try.underlying22 hi hz0 hz1 hz2 rfl (by decide) _ _ _ rfl (HP1.out) _ _ _ _ _ rfl (HR1a.out) (f8_all M) (by unfold maxLen; omega) (by omega) ?_
       intro v1 W2 how1 hb2 hgr
       rw [Nat.zero_add, List.nil_append] at how1
       obtain ⟨A2, c2, rfl, hr2⟩ := how1.rds
       have HP2 := Lib.hid how1
       have HB2 : RowKit.Hid (Below w.heap.size w W2) := Lib.hid (bel_bl HB1.out how1.below)
       have HBa := HB1
       have HR2 := Lib.hid (HR1.out.bl how1.below)
       clear how1 hb2 hgr hr2))
  clear HP1 HR1a HB1 HR1
  go_wp2_with fail
  refine (HS.out _ HR2.out).mono ?_
  rintro e W3 ⟨rfl, rfl⟩
  go_upto_region 8 with (first
    | (at_builtin
       refine wpList_push2 rfl (.tmp 25) (.tmp 37) _ rfl _ 5 i0 _ 1 1 Try.underlying22 hi hz0 hz1 hz2 rfl (by decide) _ _ _ rfl (HP2.out.up (below1 _ _)) _ (some ⟨W2.heap.size, 0, none⟩) 4 4 ([.int .u8 ((x : Int) % 256), .int .u8 ((x : Int) / 256 % 256), .int .u8 ((x : Int) / 65536 % 256), .int .u8 ((x : Int) / 16777216 % 256)]) rfl (by exact RdS.new_ rfl (Nat.lt_succ_self _) rfl rfl) (by simp [Value.oneCell']) (by unfold maxLen; omega) (by omega) ?_
       intro v2 W4 how2 hb4 hgr
       obtain ⟨A4, c4, rfl, hr4⟩ := how2.rds
       have HP4 := Lib.hid how2
       clear how2 hb4 hgr hr4))
  have hrow : rowsV f8 M ++ [.int .u8 ((x : Int) % 256), .int .u8 ((x : Int) / 256 % 256), .int .u8 ((x : Int) / 65536 % 256), .int .u8 ((x : Int) / 16777216 % 256)] = rowsV f8 N := by
    rw [← HN.out, rowsV_app f8 M]
    simp [le4, rowsV, f8]
  have hx4 := HP4.out
  rw [hrow] at hx4
  obtain ⟨nN, gnN⟩ : ∃ k, M.length + 4 = k := ⟨_, rfl⟩
  rw [gnN] at hx4 ⊢
  have HnN : RowKit.Hid (nN ≤ 2000) := Lib.hid (by omega)
  have HP5 := Lib.hid hx4
  clear hrow hx4 gnN HP4 v0 v1 v2 v3
  have HB5 : RowKit.Hid (Below w.heap.size w W4) := Lib.hid (bel_bl HBa.out HP5.out.below)
  clear HB2 HP2 HR2 HS
  have HQ5 := Lib.hid (by obtain ⟨A5, c5, e5, hr5⟩ := HP5.out.rds; injection e5 with e1 _ e3; subst e1 e3; exact hr5 : RdS W4 W4.heap.size 1 A4 nN c4 (rowsV f8 N))
  clear HP5
  have HP6 : RowKit.Hid (Ow W4 W4.heap.size 5 1 (.slice (some ⟨W4.heap.size, 0, none⟩) 0 0) 0 [] (W4.alloc (.cells #[] 5))) := Lib.hid (Ow.new_ (cs := #[]) (Below.refl _ _) (Nat.le_refl _) (Nat.le_refl _) (Nat.zero_le _) rfl)
  have HR6 := Lib.hid (HQ5.out.al (.cells #[] 5))
  go_wp2_with (first
    | (at_builtin
       refine wpList_push2 rfl (.tmp 40) (.tmp 41) _ rfl _ 5 i0 _ 1 1 Try.underlying22 hi hz0 hz1 hz2 rfl (by decide) _ _ _ rfl (HP6.out) _ _ _ _ _ rfl (HR6.out) (f8_all N) (by have := HnN.out; unfold maxLen; omega) (by have := HnN.out; omega) ?_
       intro v6 W6 how6 hb6 hgr
       rw [Nat.zero_add, List.nil_append] at how6
       obtain ⟨A6, c6, rfl, hr6⟩ := how6.rds
       have HB6 : RowKit.Hid (Below w.heap.size w W6) := Lib.hid (bel_bl HB5.out how6.below)
       have HQ6 := Lib.hid (HQ5.out.bl how6.below)
       have HU6 := Lib.hid hr6
       clear how6 hb6 hgr hr6))
  refine (take_t A6 nN c6 N W6 F Bd z HT.out HU6.out HbN.out (by have := HnN.out; omega)).mono ?_
  rintro e W7 ⟨A7, c7, rfl, hr7, -, hb7⟩
  have HB7 : RowKit.Hid (Below w.heap.size w W7) := Lib.hid (bel_bl HB6.out hb7)
  have HQ7 := Lib.hid (HQ6.out.bl hb7)
  have HX7 := Lib.hid hr7
  clear hb7 hr7 HB6 HQ6 HU6 HP6 HR6 HB5 HQ5
  unfold frCells
  go_upto_region 9 with fail
  have HO8 : RowKit.Hid (Whole (W7.alloc (.cells #[.int .i64 F.k, .int .i64 F.fr, .int .i64 F.tt, .int .i64 F.ep, .int .i64 F.sq, .int .i64 F.ac, .slice A7 Bd.length c7] 24)) W7.heap.size 24 [.int .i64 F.k, .int .i64 F.fr, .int .i64 F.tt, .int .i64 F.ep, .int .i64 F.sq, .int .i64 F.ac, .slice A7 Bd.length c7]) := Lib.hid (Whole.new_ _ _ [.int .i64 F.k, .int .i64 F.fr, .int .i64 F.tt, .int .i64 F.ep, .int .i64 F.sq, .int .i64 F.ac, .slice A7 Bd.length c7])
  have HB8 : RowKit.Hid (Below w.heap.size w (W7.alloc (.cells #[.int .i64 F.k, .int .i64 F.fr, .int .i64 F.tt, .int .i64 F.ep, .int .i64 F.sq, .int .i64 F.ac, .slice A7 Bd.length c7] 24))) := Lib.hid (bel_al HB7.out _)
  have HQ8 := Lib.hid (HQ7.out.al (.cells #[.int .i64 F.k, .int .i64 F.fr, .int .i64 F.tt, .int .i64 F.ep, .int .i64 F.sq, .int .i64 F.ac, .slice A7 Bd.length c7] 24))
  have HX8 := Lib.hid (HX7.out.al (.cells #[.int .i64 F.k, .int .i64 F.fr, .int .i64 F.tt, .int .i64 F.ep, .int .i64 F.sq, .int .i64 F.ac, .slice A7 Bd.length c7] 24))
  obtain ⟨W8, gW8⟩ : ∃ x, W7.alloc (.cells #[.int .i64 F.k, .int .i64 F.fr, .int .i64 F.tt, .int .i64 F.ep, .int .i64 F.sq, .int .i64 F.ac, .slice A7 Bd.length c7] 24) = x := ⟨_, rfl⟩
  obtain ⟨g8, gg8⟩ : ∃ x, W7.heap.size = x := ⟨_, rfl⟩
  rw [gW8] at HO8 HB8 HQ8 HX8 ⊢
  rw [gg8] at HO8 ⊢
  clear gW8 gg8 HB7 HQ7 HX7
  go_wp2_with fail
  refine (rtake_t A4 nN c4 N W8 F Bd z HT.out HQ8.out HbN.out (by have := HnN.out; omega)).mono ?_
  rintro e W9 ⟨A9, c9, rfl, hr9, -, hb9⟩
  have HB9 : RowKit.Hid (Below w.heap.size w W9) := Lib.hid (bel_bl HB8.out hb9)
  have HO9 := Lib.hid (HO8.out.below hb9)
  have HX9 := Lib.hid (HX8.out.bl hb9)
  have HY9 := Lib.hid hr9
  clear hb9 hr9 HB8 HQ8 HO8 HX8
  unfold frCells
  go_upto_region 10 with fail
  have HOb : RowKit.Hid (Whole (W9.alloc (.cells #[.int .i64 F.k, .int .i64 F.fr, .int .i64 F.tt, .int .i64 F.ep, .int .i64 F.sq, .int .i64 F.ac, .slice A9 Bd.length c9] 24)) W9.heap.size 24 [.int .i64 F.k, .int .i64 F.fr, .int .i64 F.tt, .int .i64 F.ep, .int .i64 F.sq, .int .i64 F.ac, .slice A9 Bd.length c9]) := Lib.hid (Whole.new_ _ _ [.int .i64 F.k, .int .i64 F.fr, .int .i64 F.tt, .int .i64 F.ep, .int .i64 F.sq, .int .i64 F.ac, .slice A9 Bd.length c9])
  have HOa := Lib.hid (HO9.out.al (.cells #[.int .i64 F.k, .int .i64 F.fr, .int .i64 F.tt, .int .i64 F.ep, .int .i64 F.sq, .int .i64 F.ac, .slice A9 Bd.length c9] 24))
  have HBa : RowKit.Hid (Below w.heap.size w (W9.alloc (.cells #[.int .i64 F.k, .int .i64 F.fr, .int .i64 F.tt, .int .i64 F.ep, .int .i64 F.sq, .int .i64 F.ac, .slice A9 Bd.length c9] 24))) := Lib.hid (bel_al HB9.out _)
  have HXa := Lib.hid (HX9.out.al (.cells #[.int .i64 F.k, .int .i64 F.fr, .int .i64 F.tt, .int .i64 F.ep, .int .i64 F.sq, .int .i64 F.ac, .slice A9 Bd.length c9] 24))
  have HYa := Lib.hid (HY9.out.al (.cells #[.int .i64 F.k, .int .i64 F.fr, .int .i64 F.tt, .int .i64 F.ep, .int .i64 F.sq, .int .i64 F.ac, .slice A9 Bd.length c9] 24))
  obtain ⟨Wa, gWa⟩ : ∃ x, W9.alloc (.cells #[.int .i64 F.k, .int .i64 F.fr, .int .i64 F.tt, .int .i64 F.ep, .int .i64 F.sq, .int .i64 F.ac, .slice A9 Bd.length c9] 24) = x := ⟨_, rfl⟩
  obtain ⟨ga, gga⟩ : ∃ x, W9.heap.size = x := ⟨_, rfl⟩
  rw [gWa] at HOb HOa HBa HXa HYa ⊢
  rw [gga] at HOb ⊢
  clear gWa gga HB9 HO9 HX9 HY9
  refine wp_region_lit ?_
  refine wpList_load_row rfl 24 (.tmp 8) rfl g8 rfl 24 #[.int .i64 F.k, .int .i64 F.fr, .int .i64 F.tt, .int .i64 F.ep, .int .i64 F.sq, .int .i64 F.ac, .slice A7 Bd.length c7] (0, 0) _ HOa.out Try.underlying24 rfl (by kernel_rfl) ?_
  simp only [Act.put, List.setIfInBounds_toArray, List.set_cons_zero, List.set_cons_succ]
  refine wpList_load_row rfl 24 (.tmp 10) rfl ga rfl 24 #[.int .i64 F.k, .int .i64 F.fr, .int .i64 F.tt, .int .i64 F.ep, .int .i64 F.sq, .int .i64 F.ac, .slice A9 Bd.length c9] (0, 0) _ HOb.out Try.underlying24 rfl (by kernel_rfl) ?_
  simp only [Act.put, List.setIfInBounds_toArray, List.set_cons_zero, List.set_cons_succ]
  have HSm := Lib.hid (same_any F F A7 A9 Bd.length c7 Bd.length c9 Bd Bd Wa HXa.out HYa.out)
  rw [sameF_self] at HSm
  unfold frCells at HSm
  go_wp2_with fail
  refine HSm.out.mono ?_
  rintro e Wb ⟨rfl, hbb⟩
  have HBb : RowKit.Hid (Below w.heap.size w Wb) := Lib.hid (bel_bl HBa.out hbb)
  clear hbb
  go_wp2
  go_ret
  exact ⟨rfl, HBb.out⟩
theorem law_takes (A : Option Addr) (n c : Nat) (L : List Nat) (s : Bool) (w : World) (h : RdS w w.heap.size 1 A n c (rowsV f8 L)) (hb : ∀ b ∈ L, b < 256) :
    Calls Try.prog 4 #[.slice A n c, .bool s] w fun e w' => e = .returned (.bool true) ∧ Below w.heap.size w w' := by
  by_cases h10 : 1000 < n
  · cases s
    · exact takes_b A n c L w h hb h10
    · exact takes_d A n c L w h hb h10
  · cases s
    · exact takes_a A n c L w h hb (by omega)
    · exact takes_c A n c L w h hb (by omega)
end Go.Proofs.Ytgmjehejaailpaa
