/- Several texts in one. -/
import Derived.Test.YtibbibpfnpjjdaaNAE

/- The net: Double. -/
namespace Go.Proofs.Ytibbibpfnpjjdaa
open Go.RowKit
set_option linter.unusedSimpArgs false
set_option linter.unusedVariables false

def doubE (s : NtS) (i : Int) : Int := if hasN s i = true then (if s.1.length < 4096 then 0 else 20) else 1
theorem NtIn.drew {B : Nat} {w : World} {g t : Nat} {go : Option Nat} {A : Option Addr} {c : Nat} {es : List Sl} {s : NtS} (h : NtIn B w g t go A c es s) : NtIn B w.drew g t go A c es s := h.below ((Below.refl _ _).drew)
set_option maxRecDepth 100000 in
set_option maxHeartbeats 4000000 in
theorem nt_doub_no {B : Nat} {g t : Nat} {go : Option Nat} {A : Option Addr} {c : Nat} {es : List Sl} {s : NtS} (w : World) (h : NtIn B w g t go A c es s) (i : Int) (hi : ¬ (hasN s i = true ∧ s.1.length < 4096)) :
    Calls Try.prog 18 #[.pointer (some ⟨g, 0, none⟩), .int .i64 i] w fun e w' => e = .returned (.int .i64 (doubE s i)) ∧ w' = w := by
  have HH := Lib.hid (nt_has g A s.1.length c t i w h.box)
  have l0 := h.box.cell (i := 0) (v := .slice A s.1.length c) rfl
  by_cases hh : hasN s i = true
  · have hd : decide (0 ≤ i ∧ i < (s.1.length : Int)) = true := hh
    have hE : doubE s i = 20 := by unfold doubE; rw [if_pos hh, if_neg (fun q => hi ⟨hh, q⟩)]
    have hn : ¬ s.1.length < 4096 := fun q => hi ⟨hh, q⟩
    have HE := Lib.hid hE
    rw [hd] at HH
    clear hE hi hh h hd
    obtain ⟨n, gn⟩ : ∃ n, s.1.length = n := ⟨_, rfl⟩
    rw [gn] at l0 hn
    have hq : decide ((4096 : Int) ≤ (n : Int)) = true := decide_eq_true (by omega)
    clear gn hn
    go_enter Try.func18, Try.ntmps18
    go_wp2_with (first
      | (go_at_call 29
         refine HH.out.mono ?_
         rintro e w1 ⟨rfl, rfl⟩))
    go_ret
    exact ⟨by rw [HE.out]; rfl, rfl⟩
  · have hd : decide (0 ≤ i ∧ i < (s.1.length : Int)) = false := by unfold hasN at hh; simpa using hh
    have hE : doubE s i = 1 := by unfold doubE; rw [if_neg hh]
    have HE := Lib.hid hE
    rw [hd] at HH
    clear hE hi hh h hd l0
    go_enter Try.func18, Try.ntmps18
    go_wp2_with (first
      | (go_at_call 29
         refine HH.out.mono ?_
         rintro e w1 ⟨rfl, rfl⟩))
    go_ret
    exact ⟨by rw [HE.out]; rfl, rfl⟩
set_option maxRecDepth 100000 in
set_option maxHeartbeats 4000000 in
theorem nt_doub_yes {B : Nat} {g t : Nat} {go : Option Nat} {A : Option Addr} {c : Nat} {es : List Sl} {s : NtS} (w : World) (h : NtIn B w g t go A c es s) (hs : NtOk s) (i : Int) (hi : hasN s i = true) (hn : s.1.length < 4096) (hT : ∀ x ∈ s.2, x ≤ 1000000) :
    Calls Try.prog 18 #[.pointer (some ⟨g, 0, none⟩), .int .i64 i] w fun e w' => e = .returned (.int .i64 0) ∧ ∃ go' A' c' es', NtIn B w' g t go' A' c' es' (doubN s i) ∧ NtGo w w' (NtT g t go (wayB A)) (NtT g t go' (wayB A')) := by
  have HH := Lib.hid (nt_has g A s.1.length c t i w h.box)
  have hd : decide (0 ≤ i ∧ i < (s.1.length : Int)) = true := hi
  rw [hd] at HH
  obtain ⟨m, rfl⟩ : ∃ m : Nat, i = (m : Int) := ⟨i.toNat, by have := (of_decide_eq_true hi).1; omega⟩
  have hm : m < s.1.length := by have := (of_decide_eq_true hi).2; omega
  obtain ⟨L, hL⟩ : ∃ L, s.1[m]? = some L := ⟨_, List.getElem?_eq_getElem hm⟩
  obtain ⟨e, he1, he2⟩ := h.each m L hL
  have haL : atN s (m : Int) = L := by unfold atN; rw [Int.toNat_natCast, List.getD_eq_getElem?_getD, hL]; rfl
  obtain ⟨b, o, rfl, hlt, hpl⟩ := h.row.place slc_len (by decide) (by omega)
  have k1 := hpl m e he1 0 (.slice e.1 e.2.1 e.2.2) rfl
  rw [Addr.add_lit] at k1
  simp only [Nat.add_zero, Nat.mul_one] at k1
  have k1 : w.drew.cell? ⟨b, o + m, none⟩ = some (.slice e.1 e.2.1 e.2.2) := k1
  have HLt : RowKit.Hid (b < w.drew.heap.size) := Lib.hid hlt
  have HD : RowKit.Hid (doubN s (m : Int) = (s.1 ++ [L], bump s.2 5)) := Lib.hid (by unfold doubN; rw [if_pos ⟨hi, hn⟩, haL])
  have H := Lib.hid h.drew
  have HBy := Lib.hid (he2.below ((Below.refl _ _).drew))
  have hadd := addL_bump (T := s.2) (k := 5) (by rw [hs.six]; decide) (by have := bump_small (k := 5) hT (by decide); omega)
  have HAD : RowKit.Hid (addL s.2 5 1 = bump s.2 5 ∧ addE s.2 5 1 = 0) := Lib.hid hadd
  have Hmx := Lib.hid hs.max
  have l0 := h.box.cell (i := 0) (v := .slice (some ⟨b, o, none⟩) s.1.length c) rfl
  have ld0 : ∀ w', Kept (fun i => some i = wayB (some ⟨b, o, none⟩)) w.drew w' → w'.cell? ⟨g, 0, none⟩ = some (.slice (some ⟨b, o, none⟩) s.1.length c) := fun w' hk => hk.cell (h.drew.box.cell (i := 0) rfl) (fun q => by
    obtain ⟨cs, h1⟩ := own_whole h.own q
    exact h.box.ne_ h1 (by decide) rfl)
  obtain ⟨n, gn⟩ : ∃ n, s.1.length = n := ⟨_, rfl⟩
  have Gn := Lib.hid gn
  rw [gn] at l0 ld0 hn hm
  have hq : decide ((4096 : Int) ≤ (n : Int)) = false := decide_eq_false (by omega)
  have hmI : (m : Int) < (n : Int) := by omega
  clear hadd gn hd hi hL he1 he2 haL hlt hpl h hs hT hn
  go_enter Try.func18, Try.ntmps18
  go_upto_region 5 with (first
    | (go_at_call 29
       refine HH.out.mono ?_
       rintro e1 w1 ⟨rfl, hw1⟩
       replace hw1 := hw1.symm
       subst hw1))
  clear l0 hq HH
  refine wp_region_tail (fun i => some i = wayB (some ⟨b, o, none⟩)) [16] (by kernel_rfl) ?_
  apply wpT_next 0 (some 15) (by kernel_rfl)
  · simp only [List.getElem?_toArray, List.getElem?_cons_succ, List.getElem?_cons_zero]; exact rfl
  · rfl
  · kernel_rfl
  · kernel_rfl
  · kernel_rfl
  · exact fun _ _ _ _ h => h
  apply Exists.intro
  apply And.intro
  · apply yr_run; rfl; intro w' hw'; go_simp; (try with_reducible rfl)
  simp only [Act.put, List.setIfInBounds_toArray, List.set_cons_zero, List.set_cons_succ]
  apply wpT_next 1 (some 16) (by kernel_rfl)
  · simp only [List.getElem?_toArray, List.getElem?_cons_succ, List.getElem?_cons_zero]; exact rfl
  · rfl
  · kernel_rfl
  · kernel_rfl
  · kernel_rfl
  · exact fun _ _ _ _ h => h
  apply Exists.intro
  apply And.intro
  · apply yr_run; rfl; intro w' hw'; go_simp; (try with_reducible rfl)
  simp only [Act.put, List.setIfInBounds_toArray, List.set_cons_zero, List.set_cons_succ]
  apply wpT_next 2 (some 17) (by kernel_rfl)
  · simp only [List.getElem?_toArray, List.getElem?_cons_succ, List.getElem?_cons_zero]; exact rfl
  · rfl
  · kernel_rfl
  · kernel_rfl
  · kernel_rfl
  · exact fun _ _ _ _ h => h
  apply Exists.intro
  apply And.intro
  · apply yr_run; rfl; intro w' hw'; go_simp; (try with_reducible rfl)
  simp only [Act.put, List.setIfInBounds_toArray, List.set_cons_zero, List.set_cons_succ]
  apply wpT_next 3 (some 18) (by kernel_rfl)
  · simp only [List.getElem?_toArray, List.getElem?_cons_succ, List.getElem?_cons_zero]; exact rfl
  · rfl
  · kernel_rfl
  · kernel_rfl
  · kernel_rfl
  · exact fun _ _ _ _ h => h
  apply Exists.intro
  apply And.intro
  · apply yr_run; rfl; intro w' hw'; go_simp; (try with_reducible rfl)
  simp only [Act.put, List.setIfInBounds_toArray, List.set_cons_zero, List.set_cons_succ]
  apply wpT_next 4 (some 19) (by kernel_rfl)
  · simp only [List.getElem?_toArray, List.getElem?_cons_succ, List.getElem?_cons_zero]; exact rfl
  · rfl
  · kernel_rfl
  · kernel_rfl
  · kernel_rfl
  · exact fun _ _ _ _ h => h
  apply Exists.intro
  apply And.intro
  · apply yr_run; rfl; intro w' hw'; go_simp; (try with_reducible rfl)
  simp only [Act.put, List.setIfInBounds_toArray, List.set_cons_zero, List.set_cons_succ]
  apply wpT_next 5 (some 20) (by kernel_rfl)
  · simp only [List.getElem?_toArray, List.getElem?_cons_succ, List.getElem?_cons_zero]; exact rfl
  · rfl
  · kernel_rfl
  · kernel_rfl
  · kernel_rfl
  · exact fun _ _ _ _ h => h
  apply Exists.intro
  apply And.intro
  · apply yr_run; rfl; intro w' hw'; go_simp; (try with_reducible rfl)
  simp only [Act.put, List.setIfInBounds_toArray, List.set_cons_zero, List.set_cons_succ]
  apply wpT_next 6 (some 21) (by kernel_rfl)
  · simp only [List.getElem?_toArray, List.getElem?_cons_succ, List.getElem?_cons_zero]; exact rfl
  · rfl
  · kernel_rfl
  · kernel_rfl
  · kernel_rfl
  · exact fun _ _ _ _ h => h
  apply Exists.intro
  apply And.intro
  · apply yr_run; rfl; intro w' hw'; go_simp; (try with_reducible rfl)
  simp only [Act.put, List.setIfInBounds_toArray, List.set_cons_zero, List.set_cons_succ]
  apply wpT_next 7 (some 22) (by kernel_rfl)
  · simp only [List.getElem?_toArray, List.getElem?_cons_succ, List.getElem?_cons_zero]; exact rfl
  · rfl
  · kernel_rfl
  · kernel_rfl
  · kernel_rfl
  · exact fun _ _ _ _ h => h
  apply Exists.intro
  apply And.intro
  · apply yr_run; rfl; intro w' hw'; go_simp; (try with_reducible rfl)
  simp only [Act.put, List.setIfInBounds_toArray, List.set_cons_zero, List.set_cons_succ]
  apply wpT_next 8 (some 23) (by kernel_rfl)
  · simp only [List.getElem?_toArray, List.getElem?_cons_succ, List.getElem?_cons_zero]; exact rfl
  · rfl
  · kernel_rfl
  · kernel_rfl
  · kernel_rfl
  · exact fun _ _ _ _ h => h
  apply Exists.intro
  apply And.intro
  · apply yr_run; rfl; intro w' hw'; go_simp; (try with_reducible rfl)
  simp only [Act.put, List.setIfInBounds_toArray, List.set_cons_zero, List.set_cons_succ]
  apply wpT_next 9 (some 24) (by kernel_rfl)
  · simp only [List.getElem?_toArray, List.getElem?_cons_succ, List.getElem?_cons_zero]; exact rfl
  · rfl
  · kernel_rfl
  · kernel_rfl
  · kernel_rfl
  · exact fun _ _ _ _ h => h
  apply Exists.intro
  apply And.intro
  · apply yr_run; rfl; intro w' hw'; go_simp; (try with_reducible rfl)
  simp only [Act.put, List.setIfInBounds_toArray, List.set_cons_zero, List.set_cons_succ]
  apply wpT_next 10 (some 25) (by kernel_rfl)
  · simp only [List.getElem?_toArray, List.getElem?_cons_succ, List.getElem?_cons_zero]; exact rfl
  · rfl
  · kernel_rfl
  · kernel_rfl
  · kernel_rfl
  · exact fun _ _ _ _ h => h
  apply Exists.intro
  apply And.intro
  · apply yr_run; rfl; intro w' hw'; go_simp; (try with_reducible rfl)
  simp only [Act.put, List.setIfInBounds_toArray, List.set_cons_zero, List.set_cons_succ]
  apply wpT_run 11 (some 26)
  · simp only [List.getElem?_toArray, List.getElem?_cons_succ, List.getElem?_cons_zero]; exact rfl
  · rfl
  · kernel_rfl
  · rfl
  intro w' hw'
  refine ⟨.slice e.1 e.2.1 e.2.2, w', ?_, Kept.refl _ _, ?_⟩
  · have hc' : w'.cell? ⟨b, o + m, none⟩ = some (.slice e.1 e.2.1 e.2.2) := Ext.cell hw' k1
    go_simp; first | done | exact ⟨rfl, rfl⟩ | exact rfl
  have HXc : RowKit.Hid (Ext w.drew w') := Lib.hid hw'
  obtain ⟨W2, gW2⟩ : ∃ x, w' = x := ⟨_, rfl⟩
  rw [gW2] at HXc ⊢
  clear hw' gW2
  simp only [Act.put, List.setIfInBounds_toArray, List.set_cons_zero, List.set_cons_succ]
  apply wpT_run 12 (some 27)
  · simp only [List.getElem?_toArray, List.getElem?_cons_succ, List.getElem?_cons_zero]; exact rfl
  · rfl
  · kernel_rfl
  · rfl
  intro w' hw'
  refine ⟨.slice (some ⟨w'.heap.size, 0, none⟩) 1 1, w'.alloc (.cells #[.slice e.1 e.2.1 e.2.2] 32), exec_buildSlice 27 32 1 #[(0, .tmp 26)] (by rfl) Try.underlying27 _ (by kernel_rfl), Kept.of_below (below1 _ _), ?_⟩
  have HXd : RowKit.Hid (Ext w.drew (w'.alloc (.cells #[.slice e.1 e.2.1 e.2.2] 32))) := Lib.hid (Ext.trans HXc.out (Ext.trans hw' (below1 _ _)))
  have HLi : RowKit.Hid (Whole (w'.alloc (.cells #[.slice e.1 e.2.1 e.2.2] 32)) w'.heap.size 32 [.slice e.1 e.2.1 e.2.2]) := Lib.hid (Whole.new_ _ _ [_])
  obtain ⟨W3, gW3⟩ : ∃ x, w'.alloc (.cells #[.slice e.1 e.2.1 e.2.2] 32) = x := ⟨_, rfl⟩
  obtain ⟨g3, gg3⟩ : ∃ x, w'.heap.size = x := ⟨_, rfl⟩
  rw [gW3] at HXd HLi ⊢
  rw [gg3] at HLi ⊢
  clear hw' HXc gW3 gg3
  simp only [Act.put, List.setIfInBounds_toArray, List.set_cons_zero, List.set_cons_succ]
  apply wpT_run 13 (some 28)
  · simp only [List.getElem?_toArray, List.getElem?_cons_succ, List.getElem?_cons_zero]; exact rfl
  · rfl
  · kernel_rfl
  · rfl
  intro w' hw'
  have h4 := H.out.below (Ext.trans HXd.out hw')
  have hB4 : B ≤ w'.heap.size := by have := h4.lo; have := h4.box.lt; omega
  obtain ⟨A', c', w'', hrun, hown, hk2, hk3⟩ := way_app h4.own (by have := Hmx.out; omega) hB4 27 e ⟨g3, 0, none⟩ ((HLi.out.below hw').cell (i := 0) rfl)
  rw [Gn.out] at hrun
  refine ⟨_, w'', exec_append (by rfl) (by rfl) (by rfl) hrun, hk2, ?_⟩
  have HOa := Lib.hid hown
  have HKa : RowKit.Hid (Kept (fun i => some i = wayB (some ⟨b, o, none⟩)) w.drew w'') := Lib.hid ((Kept.of_ext (Ext.trans HXd.out hw')).trans hk2)
  have HBe := Lib.hid (hk2.whole h4.box (fun q => by
    obtain ⟨cs, h1⟩ := own_whole h4.own q
    exact h4.box.ne_ h1 (by decide) rfl))
  have HK3 : RowKit.Hid (wayB A' = wayB (some ⟨b, o, none⟩) ∨ ∃ i, wayB A' = some i ∧ w.drew.heap.size ≤ i) := Lib.hid (hk3.imp id (fun ⟨i, h1, h2⟩ => ⟨i, h1, Nat.le_trans (Ext.trans HXd.out hw').size h2⟩))
  clear hw' HXd HLi h4 hB4 hrun hown hk2 hk3
  obtain ⟨W4, gW4⟩ : ∃ x, w'' = x := ⟨_, rfl⟩
  rw [gW4] at HOa HKa HBe ⊢
  clear gW4
  simp only [Act.put, List.setIfInBounds_toArray, List.set_cons_zero, List.set_cons_succ]
  apply wpT_run 14 (some 29)
  · simp only [List.getElem?_toArray, List.getElem?_cons_succ, List.getElem?_cons_zero]; exact rfl
  · rfl
  · kernel_rfl
  · rfl
  intro w' hw'
  apply Exists.intro
  apply Exists.intro
  apply And.intro
  · go_simp; first | done | exact ⟨rfl, rfl⟩ | exact rfl
  apply And.intro
  · exact Kept.refl _ _
  have hpd14 := hw'
  clear hw'
  simp only [Act.put, List.setIfInBounds_toArray, List.set_cons_zero, List.set_cons_succ]
  apply wpT_next 15 (some 30) (by kernel_rfl)
  · simp only [List.getElem?_toArray, List.getElem?_cons_succ, List.getElem?_cons_zero]; exact rfl
  · rfl
  · kernel_rfl
  · kernel_rfl
  · kernel_rfl
  · exact fun _ _ _ _ h => h
  apply Exists.intro
  apply And.intro
  · apply yr_run; rfl; intro w' hw'; go_simp; (try with_reducible rfl)
  simp only [Act.put, List.setIfInBounds_toArray, List.set_cons_zero, List.set_cons_succ]
  apply wpT_last 16
  · simp only [List.getElem?_toArray, List.getElem?_cons_succ, List.getElem?_cons_zero]; exact rfl
  · rfl
  · kernel_rfl
  · rfl
  · decide
  intro w' hw'
  replace hw' := Ext.trans hpd14 hw'
  clear hpd14
  have hbx := HBe.out.below hw'
  have hcl := hbx.cell (i := 0) rfl
  have hfr := hbx.free 0
  refine ⟨w'.setCell ⟨g, 0, none⟩ (.slice A' (n + 1) c'), ?_, ?_⟩
  · go_simp; first | done | exact rfl
  have HK5 : RowKit.Hid (Kept (fun i => i = g ∨ some i = wayB (some ⟨b, o, none⟩)) w.drew (w'.setCell ⟨g, 0, none⟩ (.slice A' (n + 1) c'))) := Lib.hid (((HKa.out.wider (T := fun i => i = g ∨ some i = wayB (some ⟨b, o, none⟩)) (fun i _ h => Or.inr h)).trans (Kept.of_ext hw')).setCell (p := ⟨g, 0, none⟩) (.inl (Or.inl rfl)) _)
  have HB5 : RowKit.Hid (Whole (w'.setCell ⟨g, 0, none⟩ (.slice A' (n + 1) c')) g 58 (ntC A' (n + 1) c' t)) := Lib.hid (hbx.set_ 0 _)
  have hne : some g ≠ (Value.slice A' (s.1.length + 1) c').ownBlock := fun q => by
    rw [wayB_own] at q
    obtain ⟨cs, h1⟩ := own_whole HOa.out q
    exact HBe.out.ne_ h1 (by decide) rfl
  have HO5 := Lib.hid (own_cell_far (own_up HOa.out hw') hne (i := 0) (.slice A' (n + 1) c'))
  obtain ⟨W5, gW5⟩ : ∃ x, w'.setCell ⟨g, 0, none⟩ (.slice A' (n + 1) c') = x := ⟨_, rfl⟩
  rw [gW5] at HK5 HB5 HO5 ⊢
  clear hw' hbx hcl hfr hne gW5 HBe HOa HKa
  try simp only [Act.put, List.setIfInBounds_toArray, List.set_cons_zero, List.set_cons_succ]
  refine wpT_done (by kernel_rfl) ?_ _
  intro W6 hw6
  have hw := H.out.way HK5.out (by rw [show (s.1 ++ [L]).length = n + 1 by rw [List.length_append, Gn.out]; rfl]; exact HB5.out) (by rw [show (s.1 ++ [L]).length = s.1.length + 1 by rw [List.length_append]; rfl]; exact HO5.out) ((H.out.each.app H.out.eslen HBy.out).kept HK5.out H.out.nobW) HK3.out
  have hN6 := hw.1.below hw6
  have HN6 := Lib.hid hN6
  have HGo6 : RowKit.Hid (NtGo _ W6 _ _) := Lib.hid ((NtGo.below (S := NtT g t go (wayB (some ⟨b, o, none⟩))) ((Below.refl _ _).drew)).trans (hw.2.trans (NtGo.below hw6)))
  have l1 := hN6.box.cell (i := 1) (v := .pointer (some ⟨t, 0, none⟩)) rfl
  clear hw hN6 hw6 HK5 HB5 HO5 HK3 ld0 k1
  go_wp2_with (first
    | (go_at_call 28
       refine (ta_add t go s.2 5 1 _ HN6.out.tal).mono ?_
       rintro e1 w7 ⟨rfl, go7, hT7, hS7⟩
       rw [HAD.out.1] at hT7
       obtain ⟨hN7, hG7⟩ := HN6.out.tally hT7 hS7
       have HN7 := Lib.hid hN7
       have HG7 := Lib.hid (HGo6.out.trans hG7)
       clear hT7 hS7 hN7 hG7))
  go_ret
  refine ⟨rfl, go7, A', c', es ++ [e], ?_, HG7.out⟩
  rw [HD.out]
  exact HN7.out
end Go.Proofs.Ytibbibpfnpjjdaa

/- The net: Turn. -/
namespace Go.Proofs.Ytibbibpfnpjjdaa
open Go.RowKit
set_option linter.unusedSimpArgs false
set_option linter.unusedVariables false

set_option maxRecDepth 100000 in
theorem xor1 (x : Nat) (hx : x < 256) : bits .xor .u8 (x : Int) 1 = (flip1 x : Int) := by
  have h : ∀ y : Fin 256, bits .xor .u8 ((y.val : Nat) : Int) 1 = (flip1 y.val : Int) := by decide
  exact h ⟨x, hx⟩
theorem rows8_set (L : List Nat) (j b : Nat) : (rowsV f8 L).set j (.int .u8 (b : Int)) = rowsV f8 (L.set j b) := by rw [rowsV_map8, rowsV_map8, List.map_set]
theorem rowsSl_set (es : List Sl) (m : Nat) (e : Sl) : (rowsV slc es).set m (.slice e.1 e.2.1 e.2.2) = rowsV slc (es.set m e) := by
  induction es generalizing m with
  | nil => rfl
  | cons x es ih => cases m with
    | zero => rfl
    | succ m => show _ :: _ = _ :: _; rw [← ih]; rfl
def turnE (s : NtS) (i a : Int) : Int := if hasN s i = true ∧ 0 ≤ a ∧ a < (atN s i).length then 0 else 1
set_option maxRecDepth 100000 in
set_option maxHeartbeats 4000000 in
theorem nt_turn_no {B : Nat} {g t : Nat} {go : Option Nat} {A : Option Addr} {c : Nat} {es : List Sl} {s : NtS} (w : World) (h : NtIn B w g t go A c es s) (i a : Int) (hi : ¬ (hasN s i = true ∧ 0 ≤ a ∧ a < (atN s i).length)) :
    Calls Try.prog 19 #[.pointer (some ⟨g, 0, none⟩), .int .i64 i, .int .i64 a] w fun e w' => e = .returned (.int .i64 1) ∧ w' = w := by
  have HH := Lib.hid (nt_has g A s.1.length c t i w h.box)
  by_cases hh : hasN s i = true
  · have hd : decide (0 ≤ i ∧ i < (s.1.length : Int)) = true := hh
    rw [hd] at HH
    by_cases ha : a < 0
    · clear hi hh h hd
      go_enter Try.func19, Try.ntmps19
      go_wp2_with (first
        | (go_at_call 29
           refine HH.out.mono ?_
           rintro e w1 ⟨rfl, hw1⟩
           replace hw1 := hw1.symm
           subst hw1))
      go_ret
      exact ⟨rfl, rfl⟩
    · obtain ⟨m, rfl⟩ : ∃ m : Nat, i = (m : Int) := ⟨i.toNat, by have := (of_decide_eq_true hh).1; omega⟩
      have hm : m < s.1.length := by have := (of_decide_eq_true hh).2; omega
      obtain ⟨L, hL⟩ : ∃ L, s.1[m]? = some L := ⟨_, List.getElem?_eq_getElem hm⟩
      obtain ⟨⟨A1, n1, c1⟩, he1, he2⟩ := h.each m L hL
      have haL : atN s (m : Int) = L := by unfold atN; rw [Int.toNat_natCast, List.getD_eq_getElem?_getD, hL]; rfl
      obtain rfl : n1 = L.length := he2.len
      rw [haL] at hi
      have hge : ¬ a < (L.length : Int) := fun q => hi ⟨hh, by omega, q⟩
      obtain ⟨b, o, rfl, hlt, hpl⟩ := h.row.place slc_len (by decide) (by omega)
      have k1 := hpl m _ he1 0 (.slice A1 L.length c1) rfl
      rw [Addr.add_lit] at k1
      simp only [Nat.add_zero, Nat.mul_one] at k1
      have l0 := h.box.cell (i := 0) (v := .slice (some ⟨b, o, none⟩) s.1.length c) rfl
      obtain ⟨n, gn⟩ : ∃ n, s.1.length = n := ⟨_, rfl⟩
      obtain ⟨N, gN⟩ : ∃ n, L.length = n := ⟨_, rfl⟩
      rw [gn] at l0 hm
      rw [gN] at k1 hge
      have hq1 : decide (a < 0) = false := decide_eq_false ha
      have hq2 : decide ((N : Int) ≤ a) = true := decide_eq_true (by omega)
      have hmI : (m : Int) < (n : Int) := by omega
      clear hi hh h hd hL he1 he2 haL hlt hpl gn gN
      go_enter Try.func19, Try.ntmps19
      go_wp2_with (first
        | (go_at_call 29
           refine HH.out.mono ?_
           rintro e w1 ⟨rfl, hw1⟩
           replace hw1 := hw1.symm
           subst hw1))
      go_ret
      exact ⟨rfl, rfl⟩
  · have hd : decide (0 ≤ i ∧ i < (s.1.length : Int)) = false := by unfold hasN at hh; simpa using hh
    rw [hd] at HH
    clear hi hh h hd
    go_enter Try.func19, Try.ntmps19
    go_wp2_with (first
      | (go_at_call 29
         refine HH.out.mono ?_
         rintro e w1 ⟨rfl, hw1⟩
         replace hw1 := hw1.symm
         subst hw1))
    go_ret
    exact ⟨rfl, rfl⟩
set_option maxRecDepth 100000 in
set_option maxHeartbeats 4000000 in
theorem nt_turn_yes {B : Nat} {g t : Nat} {go : Option Nat} {A : Option Addr} {c : Nat} {es : List Sl} {s : NtS} (w : World) (h : NtIn B w g t go A c es s) (hs : NtOk s) (i a : Int) (hi : hasN s i = true ∧ 0 ≤ a ∧ a < (atN s i).length) :
    Calls Try.prog 19 #[.pointer (some ⟨g, 0, none⟩), .int .i64 i, .int .i64 a] w fun e w' => e = .returned (.int .i64 0) ∧ ∃ es', NtIn B w' g t go A c es' (turnN s i a) ∧ NtGo w w' (NtT g t go (wayB A)) (NtT g t go (wayB A)) := by
  have HH := Lib.hid (nt_has g A s.1.length c t i w h.box)
  obtain ⟨hh, ha0, ha1⟩ := hi
  have hd : decide (0 ≤ i ∧ i < (s.1.length : Int)) = true := hh
  rw [hd] at HH
  obtain ⟨m, rfl⟩ : ∃ m : Nat, i = (m : Int) := ⟨i.toNat, by have := (of_decide_eq_true hh).1; omega⟩
  obtain ⟨x, rfl⟩ : ∃ m : Nat, a = (m : Int) := ⟨a.toNat, by omega⟩
  have hm : m < s.1.length := by have := (of_decide_eq_true hh).2; omega
  obtain ⟨L, hL⟩ : ∃ L, s.1[m]? = some L := ⟨_, List.getElem?_eq_getElem hm⟩
  obtain ⟨⟨A1, n1, c1⟩, he1, he2⟩ := h.each m L hL
  have haL : atN s (m : Int) = L := by unfold atN; rw [Int.toNat_natCast, List.getD_eq_getElem?_getD, hL]; rfl
  obtain rfl : n1 = L.length := he2.len
  have hTN : turnN s (m : Int) (x : Int) = (s.1.set m (L.set x (flip1 (L.getD x 0))), s.2) := by
    unfold turnN
    rw [if_pos ⟨hh, ha0, ha1⟩, haL, Int.toNat_natCast, Int.toNat_natCast]
  rw [haL] at ha1
  have hbL := hs.bytes L (List.mem_of_getElem? hL)
  have hx : x < L.length := by omega
  obtain ⟨b, junk, rfl, hlo, hW, hcl, hnc, hcm, hxl⟩ := own_place h.own (by omega)
  rw [Nat.mul_one] at hcl hxl
  have hel := h.eslen
  have hbI := hW.cell (i := m) (v := .slice A1 L.length c1) (by rw [List.getElem?_append_left (by omega)]; exact rowsV_atS he1)
  have l0 := h.box.cell (i := 0) (v := .slice (some ⟨b, 0, none⟩) s.1.length c) rfl
  have HC := Lib.hid (clone_gen A1 c1 L w he2.rds (by omega))
  have HN := Lib.hid h
  have HW := Lib.hid hW
  have HTN := Lib.hid hTN
  have HbL := Lib.hid hbL
  have HX : RowKit.Hid (m < es.length ∧ (rowsV slc es ++ junk).length = c ∧ s.1.length ≤ c ∧ c ≤ maxLen ∧ (rowsV slc es).length = s.1.length ∧ B ≤ b ∧ (rowsV slc es ++ junk)[m]? = some (.slice A1 L.length c1)) := Lib.hid ⟨by omega, hcl, hnc, hcm, hxl, hlo, by rw [List.getElem?_append_left (by omega)]; exact rowsV_atS he1⟩
  obtain ⟨n, gn⟩ : ∃ n, s.1.length = n := ⟨_, rfl⟩
  have Gn := Lib.hid gn
  rw [gn] at l0 hm
  have hq1 : decide ((x : Int) < 0) = false := decide_eq_false (by omega)
  have hq2 : decide ((L.length : Int) ≤ (x : Int)) = false := decide_eq_false (by omega)
  have hmI : (m : Int) < (n : Int) := by omega
  clear hd hh hL he1 he2 haL hTN h hs hW hcl hnc hcm hxl hlo hel hbL gn
  go_enter Try.func19, Try.ntmps19
  go_upto_region 3 with (first
    | (go_at_call 29
       refine HH.out.mono ?_
       rintro e w1 ⟨rfl, hw1⟩
       replace hw1 := hw1.symm
       subst hw1))
  clear hq1 hq2
  go_wp2_with fail
  refine HC.out.mono ?_
  rintro e w2 ⟨A2, c2, rfl, -, -, ho2, hb2⟩
  obtain ⟨gb, jk2, rfl, hlo2, hW2, hcl2, hnc2, hcm2, hxl2⟩ := own_place ho2 (by omega)
  have hv := hW2.cell (i := x) (v := .int .u8 ((L[x] : Nat) : Int)) (by rw [List.getElem?_append_left (by omega), rowsV_map8, List.getElem?_map, List.getElem?_eq_getElem hx]; rfl)
  have hfv := hW2.free x
  have hLx : L.getD x 0 = L[x] := by rw [List.getD_eq_getElem?_getD, List.getElem?_eq_getElem hx]; rfl
  have hxo := xor1 L[x] (HbL.out.2 _ (List.getElem_mem _))
  obtain ⟨p, gp⟩ : ∃ p, L[x] = p := ⟨_, rfl⟩
  rw [gp] at hv hLx hxo
  have HP := Lib.hid hLx
  -- the clone with its bit turned
  have hW3 := hW2.set_ x (.int .u8 (flip1 p : Int))
  have he3 : (rowsV f8 L ++ jk2).set x (.int .u8 (flip1 p : Int)) = rowsV f8 (L.set x (flip1 p)) ++ jk2 := by rw [List.set_append_left _ _ (by omega), rows8_set]
  rw [he3] at hW3
  have hB3 : Below w.heap.size w (w2.setCell ⟨gb, x, none⟩ (.int .u8 (flip1 p : Int))) := hb2.setCell (p := ⟨gb, x, none⟩) hlo2 _
  have hN3 := HN.out.below hB3
  have hlL : (rowsV f8 (L.set x (flip1 p))).length = L.length := by rw [rowsV_map8, List.length_map, List.length_set]
  have ho3 := own_mk (k := 1) (n := L.length) (c := c2) hW3 hlo2 (by rw [List.length_append, hlL]; rw [List.length_append, hxl2] at hcl2; omega) hnc2 hcm2 (by rw [hlL]; omega)
  have hBy3 := Byt.of_own ho3 (by rw [List.length_set])
  have HB3 := Lib.hid hB3
  have HN3 := Lib.hid hN3
  have HBy3 := Lib.hid hBy3
  have hxI : (x : Int) < (L.length : Int) := by omega
  have HW3 := Lib.hid (HW.out.below hB3)
  have l3 := hN3.box.cell (i := 0) (v := .slice (some ⟨b, 0, none⟩) s.1.length c) rfl
  rw [Gn.out] at l3
  have k3 := HW3.out.cell (i := m) (v := .slice A1 L.length c1) HX.out.2.2.2.2.2.2
  have f3 := HW3.out.free m
  clear hW3 he3 hB3 hN3 hlL ho3 hBy3 hW2 ho2 hb2 hcl2 hxl2 hcm2 HC HH hlo2 hLx gp l0 hbI
  go_upto_region 5 with fail
  obtain ⟨W3, gW3⟩ : ∃ z, w2.setCell ⟨gb, x, none⟩ (.int .u8 (flip1 p : Int)) = z := ⟨_, rfl⟩
  rw [gW3] at HB3 HN3 HBy3 HW3 l3 k3 f3 ⊢
  clear gW3 hv hfv
  go_wp2
  go_ret
  refine ⟨rfl, es.set m (some ⟨gb, 0, none⟩, L.length, c2), ?_⟩
  rw [HTN.out, HP.out]
  have hgb : g ≠ b := HN3.out.box.ne_ HW3.out (by decide)
  have hkk : Kept (fun i => i = g ∨ some i = wayB (some ⟨b, 0, none⟩)) W3 (W3.setCell ⟨b, m, none⟩ (.slice (some ⟨gb, 0, none⟩) L.length c2)) := (Kept.refl _ _).setCell (p := ⟨b, m, none⟩) (.inl (.inr rfl)) _
  obtain ⟨x1, x2, x3, x4, x5, x6, -⟩ := HX.out
  have hsl : (s.1.set m (L.set x (flip1 p))).length = s.1.length := by rw [List.length_set]
  have hw5 := HW3.out.set_ m (.slice (some ⟨gb, 0, none⟩) L.length c2)
  have hgn := Gn.out
  rw [List.set_append_left _ _ (by omega), rowsSl_set es m (some ⟨gb, 0, none⟩, L.length, c2)] at hw5
  have hrl : (rowsV slc (es.set m (some ⟨gb, 0, none⟩, L.length, c2))).length = s.1.length := by rw [← rowsSl_set, List.length_set, x5]
  have hway := HN3.out.way (A' := some ⟨b, 0, none⟩) (c' := c) (L' := s.1.set m (L.set x (flip1 p))) hkk (by rw [hsl]; exact HN3.out.box.far (p := ⟨b, m, none⟩) hgb _) (by rw [hsl]; exact own_mk (k := 1) hw5 x6 (by rw [List.length_append, hrl]; rw [List.length_append, x5] at x2; omega) x3 x4 (by rw [hrl]; omega)) ((HN3.out.each.set_ HN3.out.eslen m HBy3.out).kept hkk HN3.out.nobW) (.inl rfl)
  exact ⟨hway.1, (NtGo.below HB3.out).trans hway.2⟩
end Go.Proofs.Ytibbibpfnpjjdaa

/- The net: Clone. -/
namespace Go.Proofs.Ytibbibpfnpjjdaa
open Go.RowKit
set_option linter.unusedSimpArgs false
set_option linter.unusedVariables false

set_option maxRecDepth 100000 in
theorem cloneBB (A : Option Addr) (n c : Nat) (es : List Sl) (w : World) (h : RdS w w.heap.size 1 A n c (rowsV slc es)) (hn : n ≤ 1000000) :
    Calls Try.prog 25 #[.slice A n c] w fun e w' => ∃ A' c', e = .returned (.slice A' n c') ∧ w'.ownsRow w.heap.size 32 1 (.slice A' n c') n (rowsV slc es) ∧ Below w.heap.size w w' := by
  obtain ⟨i0, hi, hz0, hz1, hz2⟩ := info_parts_ info_sl
  cases A with
  | none =>
    obtain ⟨rfl, rfl⟩ := h.none_ rfl
    have hnil : es = [] := List.eq_nil_of_length_eq_zero (h.rlen slc_len (by decide))
    subst hnil
    have hnil : ∀ w', (binOp .eql 27 (.slice none 0 0) (.slice none 0 0)).run Try.prog w' = .ok (.bool true) w' := fun w' => Lib.run_eql_slice_nil w' _ _ _ _ _ _ _ Try.underlying27
    clear h
    go_enter Try.func25, Try.ntmps25
    go_wp2
    go_ret
    exact ⟨_, _, rfl, World.ownsRow_nil _ _ _ _, Below.refl _ _⟩
  | some a =>
    have H := Lib.hid (h.al (.cells #[] 32))
    have HO : RowKit.Hid (Ow w w.heap.size 32 1 (.slice (some ⟨w.heap.size, 0, none⟩) 0 0) 0 [] (w.alloc (.cells #[] 32))) := Lib.hid (Ow.new_ (cs := #[]) (Below.refl _ _) (Nat.le_refl _) (Nat.le_refl _) (Nat.zero_le _) rfl)
    have hnil : ∀ w', (binOp .eql 27 (.slice (some a) n c) (.slice none 0 0)).run Try.prog w' = .ok (.bool false) w' := fun w' => Lib.run_eql_slice_nil w' _ _ _ _ _ _ _ Try.underlying27
    clear h
    go_enter Try.func25, Try.ntmps25
    go_wp2_with (first
      | (at_builtin
         refine wpList_push2 rfl (.tmp 5) (.tmp 6) _ rfl _ 32 i0 _ 1 24 Try.underlying27 hi hz0 hz1 hz2 rfl (by decide) _ _ _ rfl (by exact HO.out) _ (some a) n c _ rfl (by exact H.out) (slc_all es) (by unfold maxLen; omega) (by omega) ?_
         intro v1 w1 how1 hb1 hgr
         rw [Nat.zero_add, List.nil_append] at how1
         obtain ⟨Aq, cq, rfl, -⟩ := how1.rds
         have HO1 := Lib.hid how1
         clear how1 hb1 hgr))
    go_ret
    exact ⟨_, _, rfl, HO1.out.own, HO1.out.below⟩
def GivesNc (B g t : Nat) (go : Option Nat) (A : Option Addr) (c : Nat) (es : List Sl) (s : NtS) (w : World) (e : Ending) (w' : World) : Prop :=
  ∃ g2 t2 go2 A2 c2 go', e = .returned (.pointer (some ⟨g2, 0, none⟩)) ∧ NtIn w.heap.size w' g2 t2 go2 A2 c2 es s ∧ NtIn B w' g t go' A c es s ∧ NtGo w w' (NtT g t go (wayB A)) (NtT g t go' (wayB A)) ∧ ∀ b, NtT g2 t2 go2 (wayB A2) b → ¬ NtT g t go' (wayB A) b
set_option maxRecDepth 100000 in
set_option maxHeartbeats 4000000 in
theorem nt_clone {B : Nat} {g t : Nat} {go : Option Nat} {A : Option Addr} {c : Nat} {es : List Sl} {s : NtS} (w : World) (h : NtIn B w g t go A c es s) (hs : NtOk s) :
    Calls Try.prog 10 #[.pointer (some ⟨g, 0, none⟩)] w (GivesNc B g t go A c es s w) := by
  have hgo : ¬ Own t go g := h.tal.own h.box (by decide) (by decide)
  have ld0 : ∀ w', Kept (Own t go) w.drew w' → w'.cell? ⟨g, 0, none⟩ = some (.slice A s.1.length c) := fun w' hk => hk.cell (h.drew.box.cell (i := 0) rfl) hgo
  have ld1 : ∀ w', Kept (Own t go) w.drew w' → w'.cell? ⟨g, 1, none⟩ = some (.pointer (some ⟨t, 0, none⟩)) := fun w' hk => hk.cell (h.drew.box.cell (i := 1) rfl) hgo
  have HLT : RowKit.Hid (g < w.heap.size ∧ t < w.heap.size ∧ ∀ b, some b = wayB A → b < w.heap.size) := Lib.hid ⟨h.box.lt, h.tal.lt.1, fun b hb => (h.lt b (.inr (.inr (.inr hb)))).2⟩
  have H := Lib.hid h.drew
  have Hmx := Lib.hid hs.max
  clear h hs hgo
  go_enter Try.func10, Try.ntmps10
  go_upto_region 1 with fail
  refine wp_region_reg (Own t go) (by kernel_rfl) ?_
  apply wpR_next 0 (some 3)
  · simp only [List.getElem?_toArray, List.getElem?_cons_succ, List.getElem?_cons_zero]; exact rfl
  · rfl
  · kernel_rfl
  · kernel_rfl
  · kernel_rfl
  · exact fun _ _ _ _ h => h
  apply Exists.intro
  apply And.intro
  · apply yr_run; rfl; intro w' hw'; go_simp; (try with_reducible rfl)
  simp only [Act.put, List.setIfInBounds_toArray, List.set_cons_zero, List.set_cons_succ]
  apply wpR_next 1 (some 4)
  · simp only [List.getElem?_toArray, List.getElem?_cons_succ, List.getElem?_cons_zero]; exact rfl
  · rfl
  · kernel_rfl
  · kernel_rfl
  · kernel_rfl
  · exact fun _ _ _ _ h => h
  apply Exists.intro
  apply And.intro
  · apply yr_run; rfl; intro w' hw'; go_simp; (try with_reducible rfl)
  simp only [Act.put, List.setIfInBounds_toArray, List.set_cons_zero, List.set_cons_succ]
  apply wpR_next 2 (some 5)
  · simp only [List.getElem?_toArray, List.getElem?_cons_succ, List.getElem?_cons_zero]; exact rfl
  · rfl
  · kernel_rfl
  · kernel_rfl
  · kernel_rfl
  · exact fun _ _ _ _ h => h
  apply Exists.intro
  apply And.intro
  · apply yr_run; rfl; intro w' hw'; go_simp; (try with_reducible rfl)
  simp only [Act.put, List.setIfInBounds_toArray, List.set_cons_zero, List.set_cons_succ]
  apply wpR_next 3 (some 6)
  · simp only [List.getElem?_toArray, List.getElem?_cons_succ, List.getElem?_cons_zero]; exact rfl
  · rfl
  · kernel_rfl
  · kernel_rfl
  · kernel_rfl
  · exact fun _ _ _ _ h => h
  apply Exists.intro
  apply And.intro
  · apply yr_run; rfl; intro w' hw'; go_simp; (try with_reducible rfl)
  simp only [Act.put, List.setIfInBounds_toArray, List.set_cons_zero, List.set_cons_succ]
  apply wpR_next 5 (some 8)
  · simp only [List.getElem?_toArray, List.getElem?_cons_succ, List.getElem?_cons_zero]; exact rfl
  · rfl
  · kernel_rfl
  · kernel_rfl
  · kernel_rfl
  · exact fun _ _ _ _ h => h
  apply Exists.intro
  apply And.intro
  · apply yr_run; rfl; intro w' hw'; go_simp; (try with_reducible rfl)
  simp only [Act.put, List.setIfInBounds_toArray, List.set_cons_zero, List.set_cons_succ]
  apply wpR_next 6 (some 9)
  · simp only [List.getElem?_toArray, List.getElem?_cons_succ, List.getElem?_cons_zero]; exact rfl
  · rfl
  · kernel_rfl
  · kernel_rfl
  · kernel_rfl
  · exact fun _ _ _ _ h => h
  apply Exists.intro
  apply And.intro
  · apply yr_run; rfl; intro w' hw'; go_simp; (try with_reducible rfl)
  simp only [Act.put, List.setIfInBounds_toArray, List.set_cons_zero, List.set_cons_succ]
  apply wpR_next 7 (some 10)
  · simp only [List.getElem?_toArray, List.getElem?_cons_succ, List.getElem?_cons_zero]; exact rfl
  · rfl
  · kernel_rfl
  · kernel_rfl
  · kernel_rfl
  · exact fun _ _ _ _ h => h
  apply Exists.intro
  apply And.intro
  · apply yr_run; rfl; intro w' hw'; go_simp; (try with_reducible rfl)
  simp only [Act.put, List.setIfInBounds_toArray, List.set_cons_zero, List.set_cons_succ]
  apply wpR_next 8 (some 11)
  · simp only [List.getElem?_toArray, List.getElem?_cons_succ, List.getElem?_cons_zero]; exact rfl
  · rfl
  · kernel_rfl
  · kernel_rfl
  · kernel_rfl
  · exact fun _ _ _ _ h => h
  apply Exists.intro
  apply And.intro
  · apply yr_run; rfl; intro w' hw'; go_simp; (try with_reducible rfl)
  simp only [Act.put, List.setIfInBounds_toArray, List.set_cons_zero, List.set_cons_succ]
  apply wpR_call 4 (some 7)
  · simp only [List.getElem?_toArray, List.getElem?_cons_succ, List.getElem?_cons_zero]; exact rfl
  · rfl
  · kernel_rfl
  · rfl
  · intro w'; go_simp; first | done | exact ⟨rfl, rfl⟩ | with_reducible rfl
  intro w' hw'
  refine (cloneBB A s.1.length c es w' (H.out.row.bl hw') (by have := Hmx.out; omega)).mono ?_
  rintro e w'' ⟨A2, c2, rfl, ho, hb⟩
  refine ⟨_, rfl, Kept.of_below hb, ?_⟩
  have HX2 : RowKit.Hid (Ext w.drew w'') := Lib.hid (Ext.trans hw' hb)
  have HO2 : RowKit.Hid (w''.ownsRow w.heap.size 32 1 (.slice A2 s.1.length c2) s.1.length (rowsV slc es)) := Lib.hid (own_lo ho hw'.size)
  clear hw' hb ho
  simp only [Act.put, List.setIfInBounds_toArray, List.set_cons_zero, List.set_cons_succ]
  apply wpR_call 9 (some 12)
  · simp only [List.getElem?_toArray, List.getElem?_cons_succ, List.getElem?_cons_zero]; exact rfl
  · rfl
  · kernel_rfl
  · rfl
  · intro w'; go_simp; first | done | exact ⟨rfl, rfl⟩ | with_reducible rfl
  intro w' hw'
  have HN2 := Lib.hid (H.out.below (Ext.trans HX2.out hw'))
  refine (ta_clone t go s.2 w' HN2.out.tal).mono ?_
  rintro e w'' ⟨t2, go2, go', rfl, ht2, hgo2, hne, hT2, hT1, hS⟩
  have HX3 : RowKit.Hid (w.heap.size ≤ w'.heap.size) := Lib.hid (Ext.trans HX2.out hw').size
  have HB3 : RowKit.Hid (Below w.heap.size w w') := Lib.hid ((Below.refl w.heap.size w).drew.trans (Ext.trans HX2.out hw'))
  refine ⟨_, rfl, hS.k, ?_⟩
  have HO3 : RowKit.Hid (w''.ownsRow w.heap.size 32 1 (.slice A2 s.1.length c2) s.1.length (rowsV slc es)) := Lib.hid (own_kept (own_up HO2.out hw') hS.k (fun b hb => by
    obtain ⟨cs, h1⟩ := own_whole (own_up HO2.out hw') (hb.symm.trans (wayB_own _ _ _))
    exact HN2.out.tal.own h1 (by decide) (by decide)))
  have hty := HN2.out.tally hT1 hS
  have HN3 := Lib.hid hty.1
  have HG3 := Lib.hid ((NtGo.below HB3.out).trans hty.2)
  have HT3 := Lib.hid hT2
  have Ht2 : RowKit.Hid (w.heap.size ≤ t2 ∧ (∀ x, go2 = some x → w.heap.size ≤ x) ∧ (go2 = none ∨ go2 ≠ go')) := Lib.hid ⟨Nat.le_trans HX3.out ht2, fun x hx => Nat.le_trans HX3.out (hgo2 x hx), hne⟩
  have HX4 : RowKit.Hid (w.heap.size ≤ w''.heap.size) := Lib.hid (Nat.le_trans HX3.out hS.k.size)
  clear hw' hty hT1 hT2 ht2 hgo2 hne hS HN2 HO2 HX2 HX3 HB3
  simp only [Act.put, List.setIfInBounds_toArray, List.set_cons_zero, List.set_cons_succ]
  apply wpR_next 10 (some 13)
  · simp only [List.getElem?_toArray, List.getElem?_cons_succ, List.getElem?_cons_zero]; exact rfl
  · rfl
  · kernel_rfl
  · kernel_rfl
  · kernel_rfl
  · exact fun _ _ _ _ h => h
  apply Exists.intro
  apply And.intro
  · apply yr_run; rfl; intro w' hw'; go_simp; (try with_reducible rfl)
  simp only [Act.put, List.setIfInBounds_toArray, List.set_cons_zero, List.set_cons_succ]
  apply wpR_run 11 (some 14)
  · simp only [List.getElem?_toArray, List.getElem?_cons_succ, List.getElem?_cons_zero]; exact rfl
  · rfl
  · kernel_rfl
  · rfl
  intro w' hw'
  refine ⟨.pointer (some ⟨w'.heap.size, 0, none⟩), w'.alloc (.cells (ntC A2 s.1.length c2 t2).toArray 58), ?_, Kept.of_below (below1 _ _), ?_⟩
  · go_simp; first | done | exact ⟨rfl, rfl⟩ | exact rfl
  have hbb := bel_al hw' (.cells (ntC A2 s.1.length c2 t2).toArray 58)
  have HN4 := Lib.hid (HN3.out.below hbb)
  have HG4 := Lib.hid (HG3.out.trans (NtGo.below hbb))
  have HO4 := Lib.hid (own_up HO3.out hbb)
  have HT4 := Lib.hid (HT3.out.below hbb)
  have HW4 : RowKit.Hid (Whole (w'.alloc (.cells (ntC A2 s.1.length c2 t2).toArray 58)) w'.heap.size 58 (ntC A2 s.1.length c2 t2)) := Lib.hid (Whole.new_ _ _ _)
  have HX5 : RowKit.Hid (w.heap.size ≤ w'.heap.size) := Lib.hid (Nat.le_trans HX4.out hw'.size)
  obtain ⟨W4, gW4⟩ : ∃ x, w'.alloc (.cells (ntC A2 s.1.length c2 t2).toArray 58) = x := ⟨_, rfl⟩
  obtain ⟨g2, gg2⟩ : ∃ x, w'.heap.size = x := ⟨_, rfl⟩
  rw [gW4] at HN4 HG4 HO4 HT4 HW4 ⊢
  rw [gg2] at HW4 HX5 ⊢
  clear hw' hbb HN3 HG3 HO3 HT3 HX4 gW4 gg2
  simp only [Act.put, List.setIfInBounds_toArray, List.set_cons_zero, List.set_cons_succ]
  apply wpR_next 12 (some 2)
  · simp only [List.getElem?_toArray, List.getElem?_cons_succ, List.getElem?_cons_zero]; exact rfl
  · rfl
  · kernel_rfl
  · kernel_rfl
  · kernel_rfl
  · exact fun _ _ _ _ h => h
  apply Exists.intro
  apply And.intro
  · apply yr_run; rfl; intro w' hw'; go_simp; (try with_reducible rfl)
  simp only [Act.put, List.setIfInBounds_toArray, List.set_cons_zero, List.set_cons_succ]
  refine wpR_done (by kernel_rfl) ?_ _
  intro W6 hw6
  have HN6 := Lib.hid (HN4.out.below hw6)
  have HG6 := Lib.hid (HG4.out.trans (NtGo.below hw6))
  have HO6 := Lib.hid (own_up HO4.out hw6)
  have HT6 := Lib.hid (HT4.out.below hw6)
  have HW6 := Lib.hid (HW4.out.below hw6)
  clear hw6 ld0 ld1 HN4 HG4 HO4 HT4 HW4
  go_wp2
  go_ret
  have hN2 : NtIn w.heap.size W6 g2 t2 go2 A2 c2 es s := ⟨HW6.out, HX5.out, Ht2.out.1, Ht2.out.2.1, HO6.out, HT6.out, HN6.out.each⟩
  refine ⟨g2, t2, go2, A2, c2, go', rfl, hN2, HN6.out, HG6.out, fun b hb hb' => ?_⟩
  obtain ⟨l1, l2, l3⟩ := HLT.out
  have hb0 := (hN2.lt b hb).1
  rcases hb' with rfl | rfl | q | q
  · omega
  · omega
  · obtain ⟨⟨-, -⟩, hty⟩ := tl_types HN6.out.tal
    obtain ⟨cs, h1⟩ := hty b q.symm
    obtain ⟨⟨c3, h2⟩, hty2⟩ := tl_types hN2.tal
    rcases hb with rfl | rfl | q2 | q2
    · exact hN2.box.ne_ h1 (by decide) rfl
    · exact h2.ne_ h1 (by decide) rfl
    · rcases Ht2.out.2.2 with e | e
      · rw [e] at q2; cases q2
      · exact e (q2.symm.trans q)
    · obtain ⟨c4, h4⟩ := own_whole hN2.own q2
      exact h4.ne_ h1 (by decide) rfl
  · have := l3 b q; omega
end Go.Proofs.Ytibbibpfnpjjdaa

/- The document's Take. -/
namespace Go.Proofs.Ytibbibpfnpjjdaa
open Go.RowKit
set_option linter.unusedSimpArgs false
set_option linter.unusedVariables false

set_option maxRecDepth 100000 in
set_option maxHeartbeats 4000000 in
theorem rtake_a (A : Option Addr) (n c : Nat) (L : List Nat) (w : World) (hn : n < 19) :
    Calls Try.prog 50 #[.slice A n c] w fun e w' => e = .returned (.tuple #[.agg (frCells zeroF none 0 0).toArray, .int .i64 2]) ∧ Below w.heap.size w w' := by
  have t1 : decide ((n : Int) < 19) = true := decide_eq_true (by omega)
  have t2 : decide (n < 19) = true := decide_eq_true hn
  clear hn
  have HO0 : RowKit.Hid (Whole (w.alloc (.cells #[.int .i64 0, .int .i64 0, .int .i64 0, .int .i64 0, .int .i64 0, .int .i64 0, .slice none 0 0] 34)) w.heap.size 34 [.int .i64 0, .int .i64 0, .int .i64 0, .int .i64 0, .int .i64 0, .int .i64 0, .slice none 0 0]) := Lib.hid (Whole.new_ _ _ _)
  have HB0 : RowKit.Hid (Below w.heap.size w (w.alloc (.cells #[.int .i64 0, .int .i64 0, .int .i64 0, .int .i64 0, .int .i64 0, .int .i64 0, .slice none 0 0] 34))) := Lib.hid (below1 _ _)
  go_enter Try.func50, Try.ntmps50
  go_upto_region 2 with fail
  obtain ⟨W1, gW1⟩ : ∃ x, w.alloc (.cells #[.int .i64 0, .int .i64 0, .int .i64 0, .int .i64 0, .int .i64 0, .int .i64 0, .slice none 0 0] 34) = x := ⟨_, rfl⟩
  obtain ⟨g0, gg0⟩ : ∃ x, w.heap.size = x := ⟨_, rfl⟩
  have HG0 : RowKit.Hid (w.heap.size ≤ g0 ∧ g0 ≤ w.heap.size) := Lib.hid ⟨Nat.le_of_eq gg0, Nat.le_of_eq gg0.symm⟩
  rw [gW1] at HO0 HB0 ⊢
  rw [gg0] at HO0 ⊢
  clear gW1 gg0
  refine wp_region_lit ?_
  refine wl_read (v := ?_) (some 10) rfl (by rfl) ?_ ?_
  rotate_left
  · go_simp; (try with_reducible rfl)
  simp only [Act.put, List.setIfInBounds_toArray, List.set_cons_zero, List.set_cons_succ]
  refine wpList_store_row rfl 34 (.tmp 2) (.tmp 10) rfl g0 #[.int .i64 0, .int .i64 0, .int .i64 0, .int .i64 0, .int .i64 0, .int .i64 0, .slice none 0 0] rfl rfl 34 #[.int .i64 0, .int .i64 0, .int .i64 0, .int .i64 0, .int .i64 0, .int .i64 0, .slice none 0 0] HO0.out (by kernel_rfl) rfl (by simp [Value.oneCell']) ?_
  have HO9 : RowKit.Hid (Whole (W1.setRow g0 #[.int .i64 0, .int .i64 0, .int .i64 0, .int .i64 0, .int .i64 0, .int .i64 0, .slice none 0 0]) g0 34 [.int .i64 0, .int .i64 0, .int .i64 0, .int .i64 0, .int .i64 0, .int .i64 0, .slice none 0 0]) := Lib.hid (setRow_heap W1 g0 _ _ _ _ HO0.out)
  have HB9 : RowKit.Hid (Below w.heap.size w (W1.setRow g0 #[.int .i64 0, .int .i64 0, .int .i64 0, .int .i64 0, .int .i64 0, .int .i64 0, .slice none 0 0])) := Lib.hid (below_row HB0.out HG0.out.1 _)
  obtain ⟨W9, gW9⟩ : ∃ x, W1.setRow g0 #[.int .i64 0, .int .i64 0, .int .i64 0, .int .i64 0, .int .i64 0, .int .i64 0, .slice none 0 0] = x := ⟨_, rfl⟩
  rw [gW9] at HO9 HB9 ⊢
  clear gW9 HO0 HB0
  have x0 := HO9.out.cell (i := 0) rfl
  have x1 := HO9.out.cell (i := 1) rfl
  have x2 := HO9.out.cell (i := 2) rfl
  have x3 := HO9.out.cell (i := 3) rfl
  have x4 := HO9.out.cell (i := 4) rfl
  have x5 := HO9.out.cell (i := 5) rfl
  have x6 := HO9.out.cell (i := 6) rfl
  go_wp2
  refine bodyPost_ret (v := .tuple #[.agg #[.int .i64 0, .int .i64 0, .int .i64 0, .int .i64 0, .int .i64 0, .int .i64 0, .slice none 0 0], .int .i64 2]) (by simp [results, Try.results50, go_sem, x0, x1, x2, x3, x4, x5, x6]) rfl ⟨rfl, HB9.out⟩
set_option maxRecDepth 100000 in
set_option maxHeartbeats 4000000 in
theorem rtake_b (A : Option Addr) (n c : Nat) (L : List Nat) (w : World) (h : RdS w w.heap.size 1 A n c (rowsV f8 L)) (hb : ∀ b ∈ L, b < 256) (h19 : 19 ≤ n) (h16 : n ≤ 100000) :
    Calls Try.prog 50 #[.slice A n c] w (GivesT w L) := by
  have hl := h.rlen f8_len (by decide)
  obtain ⟨E, hE4⟩ : ∃ E : Nat, E + 4 = n := ⟨n - 4, by omega⟩
  have hEn : E ≤ n := by omega
  have hnc := h.le
  have hEc : E ≤ c := by omega
  have hE1 : 15 ≤ E := by omega
  obtain ⟨bb, off, rfl, hbB, -⟩ := h.place f8_len (by decide) (by omega)
  obtain ⟨a0, a1, a2, a3, a4, a5, a6, a7, a8, a9, b0, b1, b2, b3, b4, R, hL⟩ := heads (L := L) (by omega)
  have e0 : (rowsV f8 L)[0]? = some (.int .u8 (a0 : Int)) := by rw [hL]; rfl
  have e1 : (rowsV f8 L)[1]? = some (.int .u8 (a1 : Int)) := by rw [hL]; rfl
  have e2 : (rowsV f8 L)[2]? = some (.int .u8 (a2 : Int)) := by rw [hL]; rfl
  have e3 : (rowsV f8 L)[3]? = some (.int .u8 (a3 : Int)) := by rw [hL]; rfl
  have e4 : (rowsV f8 L)[4]? = some (.int .u8 (a4 : Int)) := by rw [hL]; rfl
  have e5 : (rowsV f8 L)[5]? = some (.int .u8 (a5 : Int)) := by rw [hL]; rfl
  have e6 : (rowsV f8 L)[6]? = some (.int .u8 (a6 : Int)) := by rw [hL]; rfl
  have e7 : (rowsV f8 L)[7]? = some (.int .u8 (a7 : Int)) := by rw [hL]; rfl
  have e8 : (rowsV f8 L)[8]? = some (.int .u8 (a8 : Int)) := by rw [hL]; rfl
  have e9 : (rowsV f8 L)[9]? = some (.int .u8 (a9 : Int)) := by rw [hL]; rfl
  have e10 : (rowsV f8 L)[10]? = some (.int .u8 (b0 : Int)) := by rw [hL]; rfl
  have e11 : (rowsV f8 L)[11]? = some (.int .u8 (b1 : Int)) := by rw [hL]; rfl
  have e12 : (rowsV f8 L)[12]? = some (.int .u8 (b2 : Int)) := by rw [hL]; rfl
  have e13 : (rowsV f8 L)[13]? = some (.int .u8 (b3 : Int)) := by rw [hL]; rfl
  have e14 : (rowsV f8 L)[14]? = some (.int .u8 (b4 : Int)) := by rw [hL]; rfl
  have k0 : a0 < 256 := hb _ (by rw [hL]; simp)
  have k1 : a1 < 256 := hb _ (by rw [hL]; simp)
  have k2 : a2 < 256 := hb _ (by rw [hL]; simp)
  have k3 : a3 < 256 := hb _ (by rw [hL]; simp)
  have k4 : a4 < 256 := hb _ (by rw [hL]; simp)
  have k5 : a5 < 256 := hb _ (by rw [hL]; simp)
  have k6 : a6 < 256 := hb _ (by rw [hL]; simp)
  have k7 : a7 < 256 := hb _ (by rw [hL]; simp)
  have k8 : a8 < 256 := hb _ (by rw [hL]; simp)
  have k9 : a9 < 256 := hb _ (by rw [hL]; simp)
  have k10 : b0 < 256 := hb _ (by rw [hL]; simp)
  have k11 : b1 < 256 := hb _ (by rw [hL]; simp)
  have k12 : b2 < 256 := hb _ (by rw [hL]; simp)
  have k13 : b3 < 256 := hb _ (by rw [hL]; simp)
  have k14 : b4 < 256 := hb _ (by rw [hL]; simp)
  have hfr : frOf L = (⟨(a0 : Int), (a1 : Int), (a2 : Int), num4 a3 a4 a5 a6, num4 a7 a8 a9 b0, num4 b1 b2 b3 b4⟩ : FrT) := by rw [hL]; rfl
  have hbd : bodyOf L = (L.take E).drop 15 := by unfold bodyOf; rw [hl, show n - 4 = E by omega]
  have hx3 := (h.take_ E hEn).low_ hE1
  rw [← rowsV_take f8 f8_len, ← rowsV_drop f8 f8_len, ← hbd] at hx3
  have hbl := hx3.rlen f8_len (by decide)
  obtain ⟨Bd, gBd⟩ : ∃ x, bodyOf L = x := ⟨_, rfl⟩
  rw [gBd] at hx3 hbl
  rw [← hbl] at hx3
  have HBl := Lib.hid hbl.symm
  have HBd := Lib.hid gBd
  obtain ⟨cB, gcB⟩ : ∃ x, c - 15 = x := ⟨_, rfl⟩
  have gaB : (if c = 15 then some (⟨bb, off, none⟩ : Addr) else (some (⟨bb, off, none⟩ : Addr)).map (·.add (15 * 1))) = some ⟨bb, off + 15, none⟩ := by rw [if_neg (by omega)]; simp [Addr.add_lit]
  rw [gcB, gaB] at hx3
  have HcB := Lib.hid gcB
  have HaB := Lib.hid gaB
  have HBX := Lib.hid hx3
  have HFr := Lib.hid hfr
  have hBm : Bd.length ≤ 100000 := by omega
  have HbB := Lib.hid hbB
  have HN3 : RowKit.Hid (∀ w', RdS w' w'.heap.size 1 (some ⟨bb, off, none⟩) n c (rowsV f8 L) → Calls Try.prog 63 #[.slice (some ⟨bb, off, none⟩) n c, .int .i64 3] w' fun e w'' => e = .returned (.int .i64 (num4 a3 a4 a5 a6)) ∧ Below w'.heap.size w' w'') := Lib.hid (fun w' hr =>
    at_3 bb off n c L a3 a4 a5 a6 w' hr h19 e3 e4 e5 e6 k3 k4 k5 k6)
  have HN7 : RowKit.Hid (∀ w', RdS w' w'.heap.size 1 (some ⟨bb, off, none⟩) n c (rowsV f8 L) → Calls Try.prog 63 #[.slice (some ⟨bb, off, none⟩) n c, .int .i64 7] w' fun e w'' => e = .returned (.int .i64 (num4 a7 a8 a9 b0)) ∧ Below w'.heap.size w' w'') := Lib.hid (fun w' hr =>
    at_7 bb off n c L a7 a8 a9 b0 w' hr h19 e7 e8 e9 e10 k7 k8 k9 k10)
  have HN11 : RowKit.Hid (∀ w', RdS w' w'.heap.size 1 (some ⟨bb, off, none⟩) n c (rowsV f8 L) → Calls Try.prog 63 #[.slice (some ⟨bb, off, none⟩) n c, .int .i64 11] w' fun e w'' => e = .returned (.int .i64 (num4 b1 b2 b3 b4)) ∧ Below w'.heap.size w' w'') := Lib.hid (fun w' hr =>
    at_11 bb off n c L b1 b2 b3 b4 w' hr h19 e11 e12 e13 e14 k11 k12 k13 k14)
  have wk0 : IntKind.i64.wrap (a0 : Int) = (a0 : Int) := IntWalk.i64_in _ (by omega)
  have nn0 : 0 < n := by omega
  have wk1 : IntKind.i64.wrap (a1 : Int) = (a1 : Int) := IntWalk.i64_in _ (by omega)
  have nn1 : (1 : Int) < (n : Int) := by omega
  have wk2 : IntKind.i64.wrap (a2 : Int) = (a2 : Int) := IntWalk.i64_in _ (by omega)
  have nn2 : (2 : Int) < (n : Int) := by omega
  have HbBd : RowKit.Hid (∀ b ∈ Bd, b < 256) := Lib.hid (by rw [← gBd]; unfold bodyOf; exact fun b hm => hb b (List.mem_of_mem_take (List.mem_of_mem_drop hm)))
  have hokr := ok_ref (L := L) (by omega) hb
  rw [hfr, gBd] at hokr
  have HOk := Lib.hid hokr
  have htx : ∀ P : List Nat, (∀ b ∈ P, b < 256) → ((txt P).toList == (txt L).toList) = decide (P = L) := fun P hp => txt_eq hp hb
  have HTx := Lib.hid htx
  have HR0 := Lib.hid h
  have s4 : (n : Int) - 4 = (E : Int) := by omega
  have s5 : IntKind.i64.wrap (E : Int) = (E : Int) := IntWalk.i64_in _ (by omega)
  have t1 : decide ((n : Int) < 19) = false := decide_eq_false (by omega)
  have t2 : decide (n < 19) = false := decide_eq_false (by omega)
  clear htx hokr hb hl h19 h16 hE4 h e3 k3 e4 k4 e5 k5 e6 k6 e7 k7 e8 k8 e9 k9 e10 k10 e11 k11 e12 k12 e13 k13 e14 k14 k0 k1 k2 hbd hx3 hbl gBd gcB gaB hfr hbB hL hnc
  have HO0 : RowKit.Hid (Whole (w.alloc (.cells #[.int .i64 0, .int .i64 0, .int .i64 0, .int .i64 0, .int .i64 0, .int .i64 0, .slice none 0 0] 34)) w.heap.size 34 [.int .i64 0, .int .i64 0, .int .i64 0, .int .i64 0, .int .i64 0, .int .i64 0, .slice none 0 0]) := Lib.hid (Whole.new_ _ _ _)
  have HB0 : RowKit.Hid (Below w.heap.size w (w.alloc (.cells #[.int .i64 0, .int .i64 0, .int .i64 0, .int .i64 0, .int .i64 0, .int .i64 0, .slice none 0 0] 34))) := Lib.hid (below1 _ _)
  go_enter Try.func50, Try.ntmps50
  go_upto_region 3 with fail
  clear t1 t2
  obtain ⟨W1, gW1⟩ : ∃ x, w.alloc (.cells #[.int .i64 0, .int .i64 0, .int .i64 0, .int .i64 0, .int .i64 0, .int .i64 0, .slice none 0 0] 34) = x := ⟨_, rfl⟩
  obtain ⟨g0, gg0⟩ : ∃ x, w.heap.size = x := ⟨_, rfl⟩
  have HG0 : RowKit.Hid (w.heap.size ≤ g0 ∧ g0 ≤ w.heap.size) := Lib.hid ⟨Nat.le_of_eq gg0, Nat.le_of_eq gg0.symm⟩
  rw [gW1] at HO0 HB0 ⊢
  rw [gg0] at HO0 ⊢
  clear gW1 gg0
  have HBX1 := Lib.hid (HBX.out.up HB0.out HB0.out.size)
  have HR1 := Lib.hid (HR0.out.up HB0.out HB0.out.size)
  have HbW : RowKit.Hid (bb < W1.heap.size) := Lib.hid (Nat.lt_of_lt_of_le HbB.out HB0.out.size)
  have HG1 : RowKit.Hid (g0 < W1.heap.size) := Lib.hid HO0.out.lt
  clear HBX
  obtain ⟨B0, hB0⟩ : ∃ x, W1.heap.size = x := ⟨_, rfl⟩
  have HB0' := HB0
  clear HB0
  have HB0 := Lib.hid hB0
  have EX9 : RowKit.Hid (Ext W1 W1.drew) := Lib.hid ((Below.refl _ _).drew)
  clear hB0
  obtain ⟨i0, hi, hz0, hz1, hz2⟩ := info_parts_ info_u8
  have lC0 : ∀ w', Kept (From_ B0) W1.drew w' → w'.cell? ⟨bb, off, none⟩ = some (.int .u8 (a0 : Int)) := fun w' h => h.from_cell (by have h1 := HbW.out; have h2 := HB0.out; show bb < B0; omega) (by have := HR1.out.cell _ rfl 0 _ e0; simpa [Addr.add] using this)
  have lC1 : ∀ w', Kept (From_ B0) W1.drew w' → w'.cell? ⟨bb, off + 1, none⟩ = some (.int .u8 (a1 : Int)) := fun w' h => h.from_cell (by have h1 := HbW.out; have h2 := HB0.out; show bb < B0; omega) (by have := HR1.out.cell _ rfl 1 _ e1; simpa [Addr.add] using this)
  have lC2 : ∀ w', Kept (From_ B0) W1.drew w' → w'.cell? ⟨bb, off + 2, none⟩ = some (.int .u8 (a2 : Int)) := fun w' h => h.from_cell (by have h1 := HbW.out; have h2 := HB0.out; show bb < B0; omega) (by have := HR1.out.cell _ rfl 2 _ e2; simpa [Addr.add] using this)
  have HZ3 : RowKit.Hid (∀ w', Kept (From_ B0) W1 w' → Calls Try.prog 63 #[.slice (some ⟨bb, off, none⟩) n c, .int .i64 3] w' fun e w'' => e = .returned (.int .i64 (num4 a3 a4 a5 a6)) ∧ Below w'.heap.size w' w'') := Lib.hid (fun w' hk => HN3.out w' (RdS.kept_ HR1.out hk (Nat.le_refl _) (fun i hi e => by have h1 := HB0.out; have h2 : B0 ≤ i := e; omega)))
  have HZ7 : RowKit.Hid (∀ w', Kept (From_ B0) W1 w' → Calls Try.prog 63 #[.slice (some ⟨bb, off, none⟩) n c, .int .i64 7] w' fun e w'' => e = .returned (.int .i64 (num4 a7 a8 a9 b0)) ∧ Below w'.heap.size w' w'') := Lib.hid (fun w' hk => HN7.out w' (RdS.kept_ HR1.out hk (Nat.le_refl _) (fun i hi e => by have h1 := HB0.out; have h2 : B0 ≤ i := e; omega)))
  have HZ11 : RowKit.Hid (∀ w', Kept (From_ B0) W1 w' → Calls Try.prog 63 #[.slice (some ⟨bb, off, none⟩) n c, .int .i64 11] w' fun e w'' => e = .returned (.int .i64 (num4 b1 b2 b3 b4)) ∧ Below w'.heap.size w' w'') := Lib.hid (fun w' hk => HN11.out w' (RdS.kept_ HR1.out hk (Nat.le_refl _) (fun i hi e => by have h1 := HB0.out; have h2 : B0 ≤ i := e; omega)))
  refine wp_behind2 (fun a a' w' => ∃ (Ac : Option Addr) (cc g5 : Nat) (u11 u12 u13 u14 u15 u16 u17 u18 u19 u20 u21 u22 u23 u24 u25 u26 u27 u28 u29 u30 u31 u32 u33 u34 u35 u36 : Value), a' = (((((((((((((((((((((((((((a.put (some 11) u11).put (some 12) u12).put (some 13) u13).put (some 14) u14).put (some 15) u15).put (some 16) u16).put (some 17) u17).put (some 18) u18).put (some 19) u19).put (some 20) u20).put (some 21) u21).put (some 22) u22).put (some 23) u23).put (some 24) u24).put (some 25) u25).put (some 26) u26).put (some 27) u27).put (some 28) u28).put (some 29) u29).put (some 30) u30).put (some 31) u31).put (some 32) u32).put (some 33) u33).put (some 34) u34).put (some 35) u35).put (some 36) u36).put (some 4) (.pointer (some ⟨g5, 0, none⟩))) ∧ RowKit.Hid (Ext W1 w' ∧ W1.heap.size ≤ g5 ∧ Whole w' g5 34 [.int .i64 (a0 : Int), .int .i64 (a1 : Int), .int .i64 (a2 : Int), .int .i64 (num4 a3 a4 a5 a6), .int .i64 (num4 a7 a8 a9 b0), .int .i64 (num4 b1 b2 b3 b4), .slice Ac Bd.length cc] ∧ RdS w' w'.heap.size 1 Ac Bd.length cc (rowsV f8 Bd) ∧ (∀ a, Ac = some a → 0 < Bd.length → W1.heap.size ≤ a.block))) ?_ ?_
  · refine wp_region_reg (From_ B0) (by kernel_rfl) ?_
    apply wpR_next 0 (some 11)
    · simp only [List.getElem?_toArray, List.getElem?_cons_succ, List.getElem?_cons_zero]; exact rfl
    · rfl
    · kernel_rfl
    · kernel_rfl
    · kernel_rfl
    · first | exact fun _ _ _ _ h => Exit.noConfusion h.1 | exact fun _ _ _ _ h => h
    apply Exists.intro
    apply And.intro
    · apply yr_run; rfl; intro w' hw'; go_simp; (try with_reducible rfl)
    simp only [Act.put, List.setIfInBounds_toArray, List.set_cons_zero, List.set_cons_succ]
    apply wpR_next 1 (some 12)
    · simp only [List.getElem?_toArray, List.getElem?_cons_succ, List.getElem?_cons_zero]; exact rfl
    · rfl
    · kernel_rfl
    · kernel_rfl
    · kernel_rfl
    · first | exact fun _ _ _ _ h => Exit.noConfusion h.1 | exact fun _ _ _ _ h => h
    apply Exists.intro
    apply And.intro
    · apply yr_run; rfl; intro w' hw'; go_simp; (try with_reducible rfl)
    simp only [Act.put, List.setIfInBounds_toArray, List.set_cons_zero, List.set_cons_succ]
    apply wpR_next 2 (some 13)
    · simp only [List.getElem?_toArray, List.getElem?_cons_succ, List.getElem?_cons_zero]; exact rfl
    · rfl
    · kernel_rfl
    · kernel_rfl
    · kernel_rfl
    · first | exact fun _ _ _ _ h => Exit.noConfusion h.1 | exact fun _ _ _ _ h => h
    apply Exists.intro
    apply And.intro
    · apply yr_run; rfl; intro w' hw'; go_simp; (try with_reducible rfl)
    simp only [Act.put, List.setIfInBounds_toArray, List.set_cons_zero, List.set_cons_succ]
    apply wpR_next 3 (some 14)
    · simp only [List.getElem?_toArray, List.getElem?_cons_succ, List.getElem?_cons_zero]; exact rfl
    · rfl
    · kernel_rfl
    · kernel_rfl
    · kernel_rfl
    · first | exact fun _ _ _ _ h => Exit.noConfusion h.1 | exact fun _ _ _ _ h => h
    apply Exists.intro
    apply And.intro
    · apply yr_run; rfl; intro w' hw'; go_simp; (try with_reducible rfl)
    simp only [Act.put, List.setIfInBounds_toArray, List.set_cons_zero, List.set_cons_succ]
    apply wpR_next 4 (some 15)
    · simp only [List.getElem?_toArray, List.getElem?_cons_succ, List.getElem?_cons_zero]; exact rfl
    · rfl
    · kernel_rfl
    · kernel_rfl
    · kernel_rfl
    · first | exact fun _ _ _ _ h => Exit.noConfusion h.1 | exact fun _ _ _ _ h => h
    apply Exists.intro
    apply And.intro
    · apply yr_run; rfl; intro w' hw'; go_simp; (try with_reducible rfl)
    simp only [Act.put, List.setIfInBounds_toArray, List.set_cons_zero, List.set_cons_succ]
    apply wpR_next 5 (some 16)
    · simp only [List.getElem?_toArray, List.getElem?_cons_succ, List.getElem?_cons_zero]; exact rfl
    · rfl
    · kernel_rfl
    · kernel_rfl
    · kernel_rfl
    · first | exact fun _ _ _ _ h => Exit.noConfusion h.1 | exact fun _ _ _ _ h => h
    apply Exists.intro
    apply And.intro
    · apply yr_run; rfl; intro w' hw'; go_simp; (try with_reducible rfl)
    simp only [Act.put, List.setIfInBounds_toArray, List.set_cons_zero, List.set_cons_succ]
    apply wpR_next 6 (some 17)
    · simp only [List.getElem?_toArray, List.getElem?_cons_succ, List.getElem?_cons_zero]; exact rfl
    · rfl
    · kernel_rfl
    · kernel_rfl
    · kernel_rfl
    · first | exact fun _ _ _ _ h => Exit.noConfusion h.1 | exact fun _ _ _ _ h => h
    apply Exists.intro
    apply And.intro
    · apply yr_run; rfl; intro w' hw'; go_simp; (try with_reducible rfl)
    simp only [Act.put, List.setIfInBounds_toArray, List.set_cons_zero, List.set_cons_succ]
    apply wpR_next 7 (some 18)
    · simp only [List.getElem?_toArray, List.getElem?_cons_succ, List.getElem?_cons_zero]; exact rfl
    · rfl
    · kernel_rfl
    · kernel_rfl
    · kernel_rfl
    · first | exact fun _ _ _ _ h => Exit.noConfusion h.1 | exact fun _ _ _ _ h => h
    apply Exists.intro
    apply And.intro
    · apply yr_run; rfl; intro w' hw'; go_simp; (try with_reducible rfl)
    simp only [Act.put, List.setIfInBounds_toArray, List.set_cons_zero, List.set_cons_succ]
    apply wpR_next 8 (some 19)
    · simp only [List.getElem?_toArray, List.getElem?_cons_succ, List.getElem?_cons_zero]; exact rfl
    · rfl
    · kernel_rfl
    · kernel_rfl
    · kernel_rfl
    · first | exact fun _ _ _ _ h => Exit.noConfusion h.1 | exact fun _ _ _ _ h => h
    apply Exists.intro
    apply And.intro
    · apply yr_run; rfl; intro w' hw'; go_simp; (try with_reducible rfl)
    simp only [Act.put, List.setIfInBounds_toArray, List.set_cons_zero, List.set_cons_succ]
    apply wpR_next 9 (some 20)
    · simp only [List.getElem?_toArray, List.getElem?_cons_succ, List.getElem?_cons_zero]; exact rfl
    · rfl
    · kernel_rfl
    · kernel_rfl
    · kernel_rfl
    · first | exact fun _ _ _ _ h => Exit.noConfusion h.1 | exact fun _ _ _ _ h => h
    apply Exists.intro
    apply And.intro
    · apply yr_run; rfl; intro w' hw'; go_simp; (try with_reducible rfl)
    simp only [Act.put, List.setIfInBounds_toArray, List.set_cons_zero, List.set_cons_succ]
    apply wpR_next 10 (some 21)
    · simp only [List.getElem?_toArray, List.getElem?_cons_succ, List.getElem?_cons_zero]; exact rfl
    · rfl
    · kernel_rfl
    · kernel_rfl
    · kernel_rfl
    · first | exact fun _ _ _ _ h => Exit.noConfusion h.1 | exact fun _ _ _ _ h => h
    apply Exists.intro
    apply And.intro
    · apply yr_run; rfl; intro w' hw'; go_simp; (try with_reducible rfl)
    simp only [Act.put, List.setIfInBounds_toArray, List.set_cons_zero, List.set_cons_succ]
    apply wpR_next 11 (some 22)
    · simp only [List.getElem?_toArray, List.getElem?_cons_succ, List.getElem?_cons_zero]; exact rfl
    · rfl
    · kernel_rfl
    · kernel_rfl
    · kernel_rfl
    · first | exact fun _ _ _ _ h => Exit.noConfusion h.1 | exact fun _ _ _ _ h => h
    apply Exists.intro
    apply And.intro
    · apply yr_run; rfl; intro w' hw'; go_simp; (try with_reducible rfl)
    simp only [Act.put, List.setIfInBounds_toArray, List.set_cons_zero, List.set_cons_succ]
    apply wpR_next 12 (some 23)
    · simp only [List.getElem?_toArray, List.getElem?_cons_succ, List.getElem?_cons_zero]; exact rfl
    · rfl
    · kernel_rfl
    · kernel_rfl
    · kernel_rfl
    · first | exact fun _ _ _ _ h => Exit.noConfusion h.1 | exact fun _ _ _ _ h => h
    apply Exists.intro
    apply And.intro
    · apply yr_run; rfl; intro w' hw'; go_simp; (try with_reducible rfl)
    simp only [Act.put, List.setIfInBounds_toArray, List.set_cons_zero, List.set_cons_succ]
    apply wpR_next 13 (some 24)
    · simp only [List.getElem?_toArray, List.getElem?_cons_succ, List.getElem?_cons_zero]; exact rfl
    · rfl
    · kernel_rfl
    · kernel_rfl
    · kernel_rfl
    · first | exact fun _ _ _ _ h => Exit.noConfusion h.1 | exact fun _ _ _ _ h => h
    apply Exists.intro
    apply And.intro
    · apply yr_call; rfl; rotate_left; intro w' hw'; exact HZ3.out w' ((Kept.of_ext EX9.out).trans hw'); intro w'; go_simp
    simp only [Act.put, List.setIfInBounds_toArray, List.set_cons_zero, List.set_cons_succ]
    apply wpR_next 14 (some 25)
    · simp only [List.getElem?_toArray, List.getElem?_cons_succ, List.getElem?_cons_zero]; exact rfl
    · rfl
    · kernel_rfl
    · kernel_rfl
    · kernel_rfl
    · first | exact fun _ _ _ _ h => Exit.noConfusion h.1 | exact fun _ _ _ _ h => h
    apply Exists.intro
    apply And.intro
    · apply yr_run; rfl; intro w' hw'; go_simp; (try with_reducible rfl)
    simp only [Act.put, List.setIfInBounds_toArray, List.set_cons_zero, List.set_cons_succ]
    apply wpR_next 15 (some 26)
    · simp only [List.getElem?_toArray, List.getElem?_cons_succ, List.getElem?_cons_zero]; exact rfl
    · rfl
    · kernel_rfl
    · kernel_rfl
    · kernel_rfl
    · first | exact fun _ _ _ _ h => Exit.noConfusion h.1 | exact fun _ _ _ _ h => h
    apply Exists.intro
    apply And.intro
    · apply yr_call; rfl; rotate_left; intro w' hw'; exact HZ7.out w' ((Kept.of_ext EX9.out).trans hw'); intro w'; go_simp
    simp only [Act.put, List.setIfInBounds_toArray, List.set_cons_zero, List.set_cons_succ]
    apply wpR_next 16 (some 27)
    · simp only [List.getElem?_toArray, List.getElem?_cons_succ, List.getElem?_cons_zero]; exact rfl
    · rfl
    · kernel_rfl
    · kernel_rfl
    · kernel_rfl
    · first | exact fun _ _ _ _ h => Exit.noConfusion h.1 | exact fun _ _ _ _ h => h
    apply Exists.intro
    apply And.intro
    · apply yr_run; rfl; intro w' hw'; go_simp; (try with_reducible rfl)
    simp only [Act.put, List.setIfInBounds_toArray, List.set_cons_zero, List.set_cons_succ]
    apply wpR_next 17 (some 28)
    · simp only [List.getElem?_toArray, List.getElem?_cons_succ, List.getElem?_cons_zero]; exact rfl
    · rfl
    · kernel_rfl
    · kernel_rfl
    · kernel_rfl
    · first | exact fun _ _ _ _ h => Exit.noConfusion h.1 | exact fun _ _ _ _ h => h
    apply Exists.intro
    apply And.intro
    · apply yr_call; rfl; rotate_left; intro w' hw'; exact HZ11.out w' ((Kept.of_ext EX9.out).trans hw'); intro w'; go_simp
    simp only [Act.put, List.setIfInBounds_toArray, List.set_cons_zero, List.set_cons_succ]
    apply wpR_next 19 (some 30)
    · simp only [List.getElem?_toArray, List.getElem?_cons_succ, List.getElem?_cons_zero]; exact rfl
    · rfl
    · kernel_rfl
    · kernel_rfl
    · kernel_rfl
    · first | exact fun _ _ _ _ h => Exit.noConfusion h.1 | exact fun _ _ _ _ h => h
    apply Exists.intro
    apply And.intro
    · apply yr_run; rfl; intro w' hw'; go_simp; (try with_reducible rfl)
    simp only [Act.put, List.setIfInBounds_toArray, List.set_cons_zero, List.set_cons_succ]
    apply wpR_next 20 (some 31)
    · simp only [List.getElem?_toArray, List.getElem?_cons_succ, List.getElem?_cons_zero]; exact rfl
    · rfl
    · kernel_rfl
    · kernel_rfl
    · kernel_rfl
    · first | exact fun _ _ _ _ h => Exit.noConfusion h.1 | exact fun _ _ _ _ h => h
    apply Exists.intro
    apply And.intro
    · apply yr_run; rfl; intro w' hw'; go_simp; (try with_reducible rfl)
    simp only [Act.put, List.setIfInBounds_toArray, List.set_cons_zero, List.set_cons_succ]
    apply wpR_next 21 (some 32)
    · simp only [List.getElem?_toArray, List.getElem?_cons_succ, List.getElem?_cons_zero]; exact rfl
    · rfl
    · kernel_rfl
    · kernel_rfl
    · kernel_rfl
    · first | exact fun _ _ _ _ h => Exit.noConfusion h.1 | exact fun _ _ _ _ h => h
    apply Exists.intro
    apply And.intro
    · apply yr_run; rfl; intro w' hw'; go_simp; (try with_reducible rfl)
    simp only [Act.put, List.setIfInBounds_toArray, List.set_cons_zero, List.set_cons_succ]
    apply wpR_next 22 (some 33)
    · simp only [List.getElem?_toArray, List.getElem?_cons_succ, List.getElem?_cons_zero]; exact rfl
    · rfl
    · kernel_rfl
    · kernel_rfl
    · kernel_rfl
    · first | exact fun _ _ _ _ h => Exit.noConfusion h.1 | exact fun _ _ _ _ h => h
    apply Exists.intro
    apply And.intro
    · apply yr_run; rfl; intro w' hw'; go_simp; (try with_reducible rfl)
    simp only [Act.put, List.setIfInBounds_toArray, List.set_cons_zero, List.set_cons_succ]
    apply wpR_next 23 (some 34)
    · simp only [List.getElem?_toArray, List.getElem?_cons_succ, List.getElem?_cons_zero]; exact rfl
    · rfl
    · kernel_rfl
    · kernel_rfl
    · kernel_rfl
    · first | exact fun _ _ _ _ h => Exit.noConfusion h.1 | exact fun _ _ _ _ h => h
    apply Exists.intro
    apply And.intro
    · exact yr_run (by rfl) (fun w' h => exec_slice_as 32 5 (.tmp 30) (.const (.int .i64 15)) (.tmp 33) rfl Try.underlying32 (s := 1) (by kernel_rfl) rfl rfl rfl hE1 hEc HaB.out HBl.out HcB.out)
    simp only [Act.put, List.setIfInBounds_toArray, List.set_cons_zero, List.set_cons_succ]
    refine wpR_two 18 26 (by kernel_rfl) ?_ ?_
    · apply at_run 18 (some 29)
      · simp only [List.getElem?_toArray, List.getElem?_cons_succ, List.getElem?_cons_zero]; exact rfl
      · rfl
      · rfl
      intro w' hw'
      have E_1_2 := Lib.hid (Ext.trans EX9.out (hw'))
      refine ⟨.slice (some ⟨w'.heap.size, 0, none⟩) 0 0, w'.alloc (.cells #[] 5), ?_, Kept.of_below (below1 _ _), ?_⟩
      · go_simp
      have RR_n1_1 : RowKit.Hid (Ow W1 B0 5 1 (.slice (some ⟨w'.heap.size, 0, none⟩) 0 0) 0 [] (w'.alloc (.cells #[] 5))) := Lib.hid (Ow.new_ (e := 5) (size := 1) (cs := #[]) E_1_2.out (Nat.le_of_eq HB0.out) (by have h1 := E_1_2.out.size; have h2 := HB0.out; omega) (n := 0) (Nat.zero_le _) rfl)
      have E_1_3 := Lib.hid (Ext.trans E_1_2.out (below1 w' (.cells #[] 5)))
      have hkk : Kept (From_ B0) W1.drew (w'.alloc (.cells #[] 5)) := (Kept.of_ext hw').trans (Kept.of_below (below1 _ _))
      obtain ⟨v1_4, gv1_4⟩ : ∃ x, w'.alloc (.cells #[] 5) = x := ⟨_, rfl⟩
      rw [gv1_4] at RR_n1_1 E_1_3 hkk ⊢
      have ldt1_5 := fun w'' (h : Kept (From_ B0) v1_4 w'') => lC0 w'' (hkk.trans h)
      have ldt1_6 := fun w'' (h : Kept (From_ B0) v1_4 w'') => lC1 w'' (hkk.trans h)
      have ldt1_7 := fun w'' (h : Kept (From_ B0) v1_4 w'') => lC2 w'' (hkk.trans h)
      clear lC0 lC1 lC2
      clear gv1_4 hkk
      obtain ⟨g1_1, gg1_1⟩ : ∃ x, w'.heap.size = x := ⟨_, rfl⟩
      rw [gg1_1] at RR_n1_1  ⊢
      clear gg1_1 hw'
      try simp only [Act.put, List.setIfInBounds_toArray, List.set_cons_zero, List.set_cons_succ]
      refine wpR_two 24 26 (by kernel_rfl) ?_ ?_
      · apply at_run 24 (some 35)
        · simp only [List.getElem?_toArray, List.getElem?_cons_succ, List.getElem?_cons_zero]; exact rfl
        · rfl
        · rfl
        intro w' hw'
        have RR_2_9 := Lib.hid (Ow.up RR_n1_1.out (hw'))
        have E_2_9 := Lib.hid (Ext.trans E_1_3.out (hw'))
        obtain ⟨vv, w'', hrun, ho, hb, hg, hbk⟩ := Ow.app2 (P := Try.prog) 32 32 5 i0 _ 1 1 _ Try.underlying32 hi hz0 hz1 hz2 rfl (by decide) _ _ _ RR_2_9.out _ _ _ _ _ ((HBX1.out.bl E_2_9.out)) (f8_all _) (by unfold maxLen; omega) (by omega)
        refine ⟨vv, w'', exec_append (by rfl) (by rfl) (by rfl) hrun, Kept.of_from hb, ?_⟩
        have E_2_8 : RowKit.Hid (Ext W1 w'') := Lib.hid ho.below
        have hkk : Kept (From_ B0) v1_4 w'' := (Kept.of_ext hw').trans (Kept.of_from hb)
        obtain ⟨AA2_8, cc2_8, rfl, hrr⟩ := ho.rds
        have RR_2_8 := Lib.hid ho
        clear hrr
        obtain ⟨z2_8, gz2_8⟩ : ∃ x, w'' = x := ⟨_, rfl⟩
        rw [gz2_8] at RR_2_8 E_2_8 hkk ⊢
        have ldt2_10 := fun w'' (h : Kept (From_ B0) z2_8 w'') => ldt1_5 w'' (hkk.trans h)
        have ldt2_11 := fun w'' (h : Kept (From_ B0) z2_8 w'') => ldt1_6 w'' (hkk.trans h)
        have ldt2_12 := fun w'' (h : Kept (From_ B0) z2_8 w'') => ldt1_7 w'' (hkk.trans h)
        clear ldt1_5 ldt1_6 ldt1_7
        clear hkk hrun ho hb hg hbk gz2_8 hw'
        try simp only [Act.put, List.setIfInBounds_toArray, List.set_cons_zero, List.set_cons_succ]
        apply wpR_next 25 (some 36)
        · simp only [List.getElem?_toArray, List.getElem?_cons_succ, List.getElem?_cons_zero]; exact rfl
        · rfl
        · kernel_rfl
        · kernel_rfl
        · kernel_rfl
        · first | exact fun _ _ _ _ h => Exit.noConfusion h.1 | exact fun _ _ _ _ h => h
        apply Exists.intro
        apply And.intro
        · apply yr_run; rfl; intro w' hw'; go_simp; (try with_reducible rfl)
        simp only [Act.put, List.setIfInBounds_toArray, List.set_cons_zero, List.set_cons_succ]
        refine wpR_one 26 (by kernel_rfl) ?_
        apply at_run 26 (some 4)
        · simp only [List.getElem?_toArray, List.getElem?_cons_succ, List.getElem?_cons_zero]; exact rfl
        · rfl
        · rfl
        intro w' hw'
        have RR_2_14 := Lib.hid (Ow.up RR_2_8.out (hw'))
        have E_2_14 := Lib.hid (Ext.trans E_2_8.out (hw'))
        refine ⟨.pointer (some ⟨w'.heap.size, 0, none⟩), w'.alloc (.cells #[.int .i64 0, .int .i64 0, .int .i64 0, .int .i64 0, .int .i64 0, .int .i64 0, .slice none 0 0] 34), ?_, Kept.of_below (below1 _ _), ?_⟩
        · go_simp
        have NE_R_V_2_13 : RowKit.Hid (some w'.heap.size ≠ _) := Lib.hid (Ow.ne_ RR_2_14.out (Nat.le_refl _))
        have LOv2_13 : RowKit.Hid (W1.heap.size ≤ w'.heap.size) := Lib.hid E_2_14.out.size
        have RR_2_15 := Lib.hid (Ow.up RR_2_14.out (below1 w' (.cells #[.int .i64 0, .int .i64 0, .int .i64 0, .int .i64 0, .int .i64 0, .int .i64 0, .slice none 0 0] 34)))
        have E_2_15 := Lib.hid (Ext.trans E_2_14.out (below1 w' (.cells #[.int .i64 0, .int .i64 0, .int .i64 0, .int .i64 0, .int .i64 0, .int .i64 0, .slice none 0 0] 34)))
        have XV_n2_13 : RowKit.Hid (Whole (w'.alloc (.cells #[.int .i64 0, .int .i64 0, .int .i64 0, .int .i64 0, .int .i64 0, .int .i64 0, .slice none 0 0] 34)) w'.heap.size 34 [.int .i64 0, .int .i64 0, .int .i64 0, .int .i64 0, .int .i64 0, .int .i64 0, .slice none 0 0]) := Lib.hid (Whole.new_ _ _ [.int .i64 0, .int .i64 0, .int .i64 0, .int .i64 0, .int .i64 0, .int .i64 0, .slice none 0 0])
        have hkk : Kept (From_ B0) z2_8 (w'.alloc (.cells #[.int .i64 0, .int .i64 0, .int .i64 0, .int .i64 0, .int .i64 0, .int .i64 0, .slice none 0 0] 34)) := (Kept.of_ext hw').trans (Kept.of_below (below1 _ _))
        obtain ⟨v2_16, gv2_16⟩ : ∃ x, w'.alloc (.cells #[.int .i64 0, .int .i64 0, .int .i64 0, .int .i64 0, .int .i64 0, .int .i64 0, .slice none 0 0] 34) = x := ⟨_, rfl⟩
        rw [gv2_16] at RR_2_15 XV_n2_13 E_2_15 hkk ⊢
        have ldt2_17 := fun w'' (h : Kept (From_ B0) v2_16 w'') => ldt2_10 w'' (hkk.trans h)
        have ldt2_18 := fun w'' (h : Kept (From_ B0) v2_16 w'') => ldt2_11 w'' (hkk.trans h)
        have ldt2_19 := fun w'' (h : Kept (From_ B0) v2_16 w'') => ldt2_12 w'' (hkk.trans h)
        clear ldt2_10 ldt2_11 ldt2_12
        clear gv2_16 hkk
        obtain ⟨g2_13, gg2_13⟩ : ∃ x, w'.heap.size = x := ⟨_, rfl⟩
        rw [gg2_13] at XV_n2_13 LOv2_13 NE_R_V_2_13 ⊢
        clear gg2_13 hw'
        try simp only [Act.put, List.setIfInBounds_toArray, List.set_cons_zero, List.set_cons_succ]
        refine wpR_one 27 (by kernel_rfl) ?_
        apply at_store 27
        · simp only [List.getElem?_toArray, List.getElem?_cons_succ, List.getElem?_cons_zero]; exact rfl
        · rfl
        · rfl
        intro w' hw'
        have RR_2_21 := Lib.hid (Ow.up RR_2_15.out (hw'))
        have XV_2_21 := Lib.hid (Whole.below XV_n2_13.out (hw'))
        have E_2_21 := Lib.hid (Ext.trans E_2_15.out (hw'))
        refine ⟨w'.setRow g2_13 #[.int .i64 (a0 : Int), .int .i64 (a1 : Int), .int .i64 (a2 : Int), .int .i64 (num4 a3 a4 a5 a6), .int .i64 (num4 a7 a8 a9 b0), .int .i64 (num4 b1 b2 b3 b4), .slice AA2_8 Bd.length cc2_8], store_row_run 34 (.tmp 4) (.tmp 36) rfl g2_13 rfl [.int .i64 (a0 : Int), .int .i64 (a1 : Int), .int .i64 (a2 : Int), .int .i64 (num4 a3 a4 a5 a6), .int .i64 (num4 a7 a8 a9 b0), .int .i64 (num4 b1 b2 b3 b4), .slice AA2_8 Bd.length cc2_8] rfl 34 [.int .i64 0, .int .i64 0, .int .i64 0, .int .i64 0, .int .i64 0, .int .i64 0, .slice none 0 0] XV_2_21.out (by kernel_rfl) rfl (by simp [Value.oneCell']), kept_row (show B0 ≤ g2_13 by have h1 := LOv2_13.out; have h2 := HB0.out; omega) _, ?_⟩
        have HFRR : RowKit.Hid (∀ a, AA2_8 = some a → B0 ≤ a.block) := Lib.hid (fun a ha => by subst ha; exact (RR_2_21.out.own.lt a.block rfl).1)
        obtain ⟨A_, c_, hv_, hr_⟩ := Ow.rds_row RR_2_21.out NE_R_V_2_13.out #[.int .i64 (a0 : Int), .int .i64 (a1 : Int), .int .i64 (a2 : Int), .int .i64 (num4 a3 a4 a5 a6), .int .i64 (num4 a7 a8 a9 b0), .int .i64 (num4 b1 b2 b3 b4), .slice AA2_8 Bd.length cc2_8]
        obtain ⟨rfl, -, rfl⟩ : AA2_8 = A_ ∧ _ = _ ∧ cc2_8 = c_ := by injection hv_ with a1 a2 a3; exact ⟨a1, a2, a3⟩
        have UR_r2_20 := Lib.hid hr_
        clear hr_ hv_
        have E_r2_20 := Lib.hid (below_row E_2_21.out LOv2_13.out #[.int .i64 (a0 : Int), .int .i64 (a1 : Int), .int .i64 (a2 : Int), .int .i64 (num4 a3 a4 a5 a6), .int .i64 (num4 a7 a8 a9 b0), .int .i64 (num4 b1 b2 b3 b4), .slice AA2_8 Bd.length cc2_8])
        have XV_r2_20 : RowKit.Hid (Whole (w'.setRow g2_13 #[.int .i64 (a0 : Int), .int .i64 (a1 : Int), .int .i64 (a2 : Int), .int .i64 (num4 a3 a4 a5 a6), .int .i64 (num4 a7 a8 a9 b0), .int .i64 (num4 b1 b2 b3 b4), .slice AA2_8 Bd.length cc2_8]) g2_13 34 [.int .i64 (a0 : Int), .int .i64 (a1 : Int), .int .i64 (a2 : Int), .int .i64 (num4 a3 a4 a5 a6), .int .i64 (num4 a7 a8 a9 b0), .int .i64 (num4 b1 b2 b3 b4), .slice AA2_8 Bd.length cc2_8]) := Lib.hid (Whole.row XV_2_21.out [.int .i64 (a0 : Int), .int .i64 (a1 : Int), .int .i64 (a2 : Int), .int .i64 (num4 a3 a4 a5 a6), .int .i64 (num4 a7 a8 a9 b0), .int .i64 (num4 b1 b2 b3 b4), .slice AA2_8 Bd.length cc2_8])
        have hkk : Kept (From_ B0) v2_16 (w'.setRow g2_13 #[.int .i64 (a0 : Int), .int .i64 (a1 : Int), .int .i64 (a2 : Int), .int .i64 (num4 a3 a4 a5 a6), .int .i64 (num4 a7 a8 a9 b0), .int .i64 (num4 b1 b2 b3 b4), .slice AA2_8 Bd.length cc2_8]) := (Kept.of_ext hw').trans (kept_row (show B0 ≤ g2_13 by have h1 := LOv2_13.out; have h2 := HB0.out; omega) _)
        obtain ⟨v2_22, gv2_22⟩ : ∃ x, w'.setRow g2_13 #[.int .i64 (a0 : Int), .int .i64 (a1 : Int), .int .i64 (a2 : Int), .int .i64 (num4 a3 a4 a5 a6), .int .i64 (num4 a7 a8 a9 b0), .int .i64 (num4 b1 b2 b3 b4), .slice AA2_8 Bd.length cc2_8] = x := ⟨_, rfl⟩
        rw [gv2_22] at XV_r2_20 UR_r2_20 E_r2_20 hkk ⊢
        have ldt2_23 := fun w'' (h : Kept (From_ B0) v2_22 w'') => ldt2_17 w'' (hkk.trans h)
        have ldt2_24 := fun w'' (h : Kept (From_ B0) v2_22 w'') => ldt2_18 w'' (hkk.trans h)
        have ldt2_25 := fun w'' (h : Kept (From_ B0) v2_22 w'') => ldt2_19 w'' (hkk.trans h)
        clear ldt2_17 ldt2_18 ldt2_19
        clear gv2_22 hkk
        clear hw'
        try simp only [Act.put, List.setIfInBounds_toArray, List.set_cons_zero, List.set_cons_succ]
        refine wpR_done (by kernel_rfl) ?_ _
        intro wE hwE
        have hxx := Whole.below XV_r2_20.out hwE
        have hyy := RdS.bl UR_r2_20.out hwE
        rw [Nat.zero_add, List.nil_append] at hyy
        refine ⟨rfl, AA2_8, cc2_8, g2_13, _, _, _, _, _, _, _, _, _, _, _, _, _, _, _, _, _, _, _, _, _, _, _, _, _, _, rfl, Lib.hid ⟨?_, ?_, hxx, hyy, fun a ha _ => Nat.le_trans (Nat.le_of_eq HB0.out) (HFRR.out a ha)⟩⟩
        · exact Ext.trans E_r2_20.out hwE
        · exact LOv2_13.out
      · apply at_run 26 (some 4)
        · simp only [List.getElem?_toArray, List.getElem?_cons_succ, List.getElem?_cons_zero]; exact rfl
        · rfl
        · rfl
        intro w' hw'
        have RR_3_27 := Lib.hid (Ow.up RR_n1_1.out (hw'))
        have E_3_27 := Lib.hid (Ext.trans E_1_3.out (hw'))
        refine ⟨.pointer (some ⟨w'.heap.size, 0, none⟩), w'.alloc (.cells #[.int .i64 0, .int .i64 0, .int .i64 0, .int .i64 0, .int .i64 0, .int .i64 0, .slice none 0 0] 34), ?_, Kept.of_below (below1 _ _), ?_⟩
        · go_simp
        have NE_R_V_3_26 : RowKit.Hid (some w'.heap.size ≠ _) := Lib.hid (Ow.ne_ RR_3_27.out (Nat.le_refl _))
        have LOv3_26 : RowKit.Hid (W1.heap.size ≤ w'.heap.size) := Lib.hid E_3_27.out.size
        have RR_3_28 := Lib.hid (Ow.up RR_3_27.out (below1 w' (.cells #[.int .i64 0, .int .i64 0, .int .i64 0, .int .i64 0, .int .i64 0, .int .i64 0, .slice none 0 0] 34)))
        have E_3_28 := Lib.hid (Ext.trans E_3_27.out (below1 w' (.cells #[.int .i64 0, .int .i64 0, .int .i64 0, .int .i64 0, .int .i64 0, .int .i64 0, .slice none 0 0] 34)))
        have XV_n3_26 : RowKit.Hid (Whole (w'.alloc (.cells #[.int .i64 0, .int .i64 0, .int .i64 0, .int .i64 0, .int .i64 0, .int .i64 0, .slice none 0 0] 34)) w'.heap.size 34 [.int .i64 0, .int .i64 0, .int .i64 0, .int .i64 0, .int .i64 0, .int .i64 0, .slice none 0 0]) := Lib.hid (Whole.new_ _ _ [.int .i64 0, .int .i64 0, .int .i64 0, .int .i64 0, .int .i64 0, .int .i64 0, .slice none 0 0])
        have hkk : Kept (From_ B0) v1_4 (w'.alloc (.cells #[.int .i64 0, .int .i64 0, .int .i64 0, .int .i64 0, .int .i64 0, .int .i64 0, .slice none 0 0] 34)) := (Kept.of_ext hw').trans (Kept.of_below (below1 _ _))
        obtain ⟨v3_29, gv3_29⟩ : ∃ x, w'.alloc (.cells #[.int .i64 0, .int .i64 0, .int .i64 0, .int .i64 0, .int .i64 0, .int .i64 0, .slice none 0 0] 34) = x := ⟨_, rfl⟩
        rw [gv3_29] at RR_3_28 XV_n3_26 E_3_28 hkk ⊢
        have ldt3_30 := fun w'' (h : Kept (From_ B0) v3_29 w'') => ldt1_5 w'' (hkk.trans h)
        have ldt3_31 := fun w'' (h : Kept (From_ B0) v3_29 w'') => ldt1_6 w'' (hkk.trans h)
        have ldt3_32 := fun w'' (h : Kept (From_ B0) v3_29 w'') => ldt1_7 w'' (hkk.trans h)
        clear ldt1_5 ldt1_6 ldt1_7
        clear gv3_29 hkk
        obtain ⟨g3_26, gg3_26⟩ : ∃ x, w'.heap.size = x := ⟨_, rfl⟩
        rw [gg3_26] at XV_n3_26 LOv3_26 NE_R_V_3_26 ⊢
        clear gg3_26 hw'
        try simp only [Act.put, List.setIfInBounds_toArray, List.set_cons_zero, List.set_cons_succ]
        refine wpR_one 24 (by kernel_rfl) ?_
        apply at_run 24 (some 35)
        · simp only [List.getElem?_toArray, List.getElem?_cons_succ, List.getElem?_cons_zero]; exact rfl
        · rfl
        · rfl
        intro w' hw'
        have RR_3_34 := Lib.hid (Ow.up RR_3_28.out (hw'))
        have XV_3_34 := Lib.hid (Whole.below XV_n3_26.out (hw'))
        have E_3_34 := Lib.hid (Ext.trans E_3_28.out (hw'))
        obtain ⟨vv, w'', hrun, ho, hb, hg, hbk⟩ := Ow.app2 (P := Try.prog) 32 32 5 i0 _ 1 1 _ Try.underlying32 hi hz0 hz1 hz2 rfl (by decide) _ _ _ RR_3_34.out _ _ _ _ _ ((HBX1.out.bl E_3_34.out)) (f8_all _) (by unfold maxLen; omega) (by omega)
        refine ⟨vv, w'', exec_append (by rfl) (by rfl) (by rfl) hrun, Kept.of_from hb, ?_⟩
        have XV_3_33 := Lib.hid (Whole.grown XV_3_34.out hg NE_R_V_3_26.out)
        have NE_R_V_3_33 := Lib.hid (Ow.ne2 NE_R_V_3_26.out XV_3_34.out.lt hbk)
        have E_3_33 : RowKit.Hid (Ext W1 w'') := Lib.hid ho.below
        have hkk : Kept (From_ B0) v3_29 w'' := (Kept.of_ext hw').trans (Kept.of_from hb)
        obtain ⟨AA3_33, cc3_33, rfl, hrr⟩ := ho.rds
        have RR_3_33 := Lib.hid ho
        clear hrr
        obtain ⟨z3_33, gz3_33⟩ : ∃ x, w'' = x := ⟨_, rfl⟩
        rw [gz3_33] at RR_3_33 XV_3_33 E_3_33 hkk ⊢
        have ldt3_35 := fun w'' (h : Kept (From_ B0) z3_33 w'') => ldt3_30 w'' (hkk.trans h)
        have ldt3_36 := fun w'' (h : Kept (From_ B0) z3_33 w'') => ldt3_31 w'' (hkk.trans h)
        have ldt3_37 := fun w'' (h : Kept (From_ B0) z3_33 w'') => ldt3_32 w'' (hkk.trans h)
        clear ldt3_30 ldt3_31 ldt3_32
        clear hkk hrun ho hb hg hbk gz3_33 hw'
        try simp only [Act.put, List.setIfInBounds_toArray, List.set_cons_zero, List.set_cons_succ]
        apply wpR_next 25 (some 36)
        · simp only [List.getElem?_toArray, List.getElem?_cons_succ, List.getElem?_cons_zero]; exact rfl
        · rfl
        · kernel_rfl
        · kernel_rfl
        · kernel_rfl
        · first | exact fun _ _ _ _ h => Exit.noConfusion h.1 | exact fun _ _ _ _ h => h
        apply Exists.intro
        apply And.intro
        · apply yr_run; rfl; intro w' hw'; go_simp; (try with_reducible rfl)
        simp only [Act.put, List.setIfInBounds_toArray, List.set_cons_zero, List.set_cons_succ]
        refine wpR_one 27 (by kernel_rfl) ?_
        apply at_store 27
        · simp only [List.getElem?_toArray, List.getElem?_cons_succ, List.getElem?_cons_zero]; exact rfl
        · rfl
        · rfl
        intro w' hw'
        have RR_3_39 := Lib.hid (Ow.up RR_3_33.out (hw'))
        have XV_3_39 := Lib.hid (Whole.below XV_3_33.out (hw'))
        have E_3_39 := Lib.hid (Ext.trans E_3_33.out (hw'))
        refine ⟨w'.setRow g3_26 #[.int .i64 (a0 : Int), .int .i64 (a1 : Int), .int .i64 (a2 : Int), .int .i64 (num4 a3 a4 a5 a6), .int .i64 (num4 a7 a8 a9 b0), .int .i64 (num4 b1 b2 b3 b4), .slice AA3_33 Bd.length cc3_33], store_row_run 34 (.tmp 4) (.tmp 36) rfl g3_26 rfl [.int .i64 (a0 : Int), .int .i64 (a1 : Int), .int .i64 (a2 : Int), .int .i64 (num4 a3 a4 a5 a6), .int .i64 (num4 a7 a8 a9 b0), .int .i64 (num4 b1 b2 b3 b4), .slice AA3_33 Bd.length cc3_33] rfl 34 [.int .i64 0, .int .i64 0, .int .i64 0, .int .i64 0, .int .i64 0, .int .i64 0, .slice none 0 0] XV_3_39.out (by kernel_rfl) rfl (by simp [Value.oneCell']), kept_row (show B0 ≤ g3_26 by have h1 := LOv3_26.out; have h2 := HB0.out; omega) _, ?_⟩
        have HFRR : RowKit.Hid (∀ a, AA3_33 = some a → B0 ≤ a.block) := Lib.hid (fun a ha => by subst ha; exact (RR_3_39.out.own.lt a.block rfl).1)
        obtain ⟨A_, c_, hv_, hr_⟩ := Ow.rds_row RR_3_39.out NE_R_V_3_33.out #[.int .i64 (a0 : Int), .int .i64 (a1 : Int), .int .i64 (a2 : Int), .int .i64 (num4 a3 a4 a5 a6), .int .i64 (num4 a7 a8 a9 b0), .int .i64 (num4 b1 b2 b3 b4), .slice AA3_33 Bd.length cc3_33]
        obtain ⟨rfl, -, rfl⟩ : AA3_33 = A_ ∧ _ = _ ∧ cc3_33 = c_ := by injection hv_ with a1 a2 a3; exact ⟨a1, a2, a3⟩
        have UR_r3_38 := Lib.hid hr_
        clear hr_ hv_
        have E_r3_38 := Lib.hid (below_row E_3_39.out LOv3_26.out #[.int .i64 (a0 : Int), .int .i64 (a1 : Int), .int .i64 (a2 : Int), .int .i64 (num4 a3 a4 a5 a6), .int .i64 (num4 a7 a8 a9 b0), .int .i64 (num4 b1 b2 b3 b4), .slice AA3_33 Bd.length cc3_33])
        have XV_r3_38 : RowKit.Hid (Whole (w'.setRow g3_26 #[.int .i64 (a0 : Int), .int .i64 (a1 : Int), .int .i64 (a2 : Int), .int .i64 (num4 a3 a4 a5 a6), .int .i64 (num4 a7 a8 a9 b0), .int .i64 (num4 b1 b2 b3 b4), .slice AA3_33 Bd.length cc3_33]) g3_26 34 [.int .i64 (a0 : Int), .int .i64 (a1 : Int), .int .i64 (a2 : Int), .int .i64 (num4 a3 a4 a5 a6), .int .i64 (num4 a7 a8 a9 b0), .int .i64 (num4 b1 b2 b3 b4), .slice AA3_33 Bd.length cc3_33]) := Lib.hid (Whole.row XV_3_39.out [.int .i64 (a0 : Int), .int .i64 (a1 : Int), .int .i64 (a2 : Int), .int .i64 (num4 a3 a4 a5 a6), .int .i64 (num4 a7 a8 a9 b0), .int .i64 (num4 b1 b2 b3 b4), .slice AA3_33 Bd.length cc3_33])
        have hkk : Kept (From_ B0) z3_33 (w'.setRow g3_26 #[.int .i64 (a0 : Int), .int .i64 (a1 : Int), .int .i64 (a2 : Int), .int .i64 (num4 a3 a4 a5 a6), .int .i64 (num4 a7 a8 a9 b0), .int .i64 (num4 b1 b2 b3 b4), .slice AA3_33 Bd.length cc3_33]) := (Kept.of_ext hw').trans (kept_row (show B0 ≤ g3_26 by have h1 := LOv3_26.out; have h2 := HB0.out; omega) _)
        obtain ⟨v3_40, gv3_40⟩ : ∃ x, w'.setRow g3_26 #[.int .i64 (a0 : Int), .int .i64 (a1 : Int), .int .i64 (a2 : Int), .int .i64 (num4 a3 a4 a5 a6), .int .i64 (num4 a7 a8 a9 b0), .int .i64 (num4 b1 b2 b3 b4), .slice AA3_33 Bd.length cc3_33] = x := ⟨_, rfl⟩
        rw [gv3_40] at XV_r3_38 UR_r3_38 E_r3_38 hkk ⊢
        have ldt3_41 := fun w'' (h : Kept (From_ B0) v3_40 w'') => ldt3_35 w'' (hkk.trans h)
        have ldt3_42 := fun w'' (h : Kept (From_ B0) v3_40 w'') => ldt3_36 w'' (hkk.trans h)
        have ldt3_43 := fun w'' (h : Kept (From_ B0) v3_40 w'') => ldt3_37 w'' (hkk.trans h)
        clear ldt3_35 ldt3_36 ldt3_37
        clear gv3_40 hkk
        clear hw'
        try simp only [Act.put, List.setIfInBounds_toArray, List.set_cons_zero, List.set_cons_succ]
        refine wpR_done (by kernel_rfl) ?_ _
        intro wE hwE
        have hxx := Whole.below XV_r3_38.out hwE
        have hyy := RdS.bl UR_r3_38.out hwE
        rw [Nat.zero_add, List.nil_append] at hyy
        refine ⟨rfl, AA3_33, cc3_33, g3_26, _, _, _, _, _, _, _, _, _, _, _, _, _, _, _, _, _, _, _, _, _, _, _, _, _, _, rfl, Lib.hid ⟨?_, ?_, hxx, hyy, fun a ha _ => Nat.le_trans (Nat.le_of_eq HB0.out) (HFRR.out a ha)⟩⟩
        · exact Ext.trans E_r3_38.out hwE
        · exact LOv3_26.out
    · apply at_run 26 (some 4)
      · simp only [List.getElem?_toArray, List.getElem?_cons_succ, List.getElem?_cons_zero]; exact rfl
      · rfl
      · rfl
      intro w' hw'
      have E_4_45 := Lib.hid (Ext.trans EX9.out (hw'))
      refine ⟨.pointer (some ⟨w'.heap.size, 0, none⟩), w'.alloc (.cells #[.int .i64 0, .int .i64 0, .int .i64 0, .int .i64 0, .int .i64 0, .int .i64 0, .slice none 0 0] 34), ?_, Kept.of_below (below1 _ _), ?_⟩
      · go_simp
      have LOv4_44 : RowKit.Hid (W1.heap.size ≤ w'.heap.size) := Lib.hid E_4_45.out.size
      have E_4_46 := Lib.hid (Ext.trans E_4_45.out (below1 w' (.cells #[.int .i64 0, .int .i64 0, .int .i64 0, .int .i64 0, .int .i64 0, .int .i64 0, .slice none 0 0] 34)))
      have XV_n4_44 : RowKit.Hid (Whole (w'.alloc (.cells #[.int .i64 0, .int .i64 0, .int .i64 0, .int .i64 0, .int .i64 0, .int .i64 0, .slice none 0 0] 34)) w'.heap.size 34 [.int .i64 0, .int .i64 0, .int .i64 0, .int .i64 0, .int .i64 0, .int .i64 0, .slice none 0 0]) := Lib.hid (Whole.new_ _ _ [.int .i64 0, .int .i64 0, .int .i64 0, .int .i64 0, .int .i64 0, .int .i64 0, .slice none 0 0])
      have hkk : Kept (From_ B0) W1.drew (w'.alloc (.cells #[.int .i64 0, .int .i64 0, .int .i64 0, .int .i64 0, .int .i64 0, .int .i64 0, .slice none 0 0] 34)) := (Kept.of_ext hw').trans (Kept.of_below (below1 _ _))
      obtain ⟨v4_47, gv4_47⟩ : ∃ x, w'.alloc (.cells #[.int .i64 0, .int .i64 0, .int .i64 0, .int .i64 0, .int .i64 0, .int .i64 0, .slice none 0 0] 34) = x := ⟨_, rfl⟩
      rw [gv4_47] at XV_n4_44 E_4_46 hkk ⊢
      have ldt4_48 := fun w'' (h : Kept (From_ B0) v4_47 w'') => lC0 w'' (hkk.trans h)
      have ldt4_49 := fun w'' (h : Kept (From_ B0) v4_47 w'') => lC1 w'' (hkk.trans h)
      have ldt4_50 := fun w'' (h : Kept (From_ B0) v4_47 w'') => lC2 w'' (hkk.trans h)
      clear lC0 lC1 lC2
      clear gv4_47 hkk
      obtain ⟨g4_44, gg4_44⟩ : ∃ x, w'.heap.size = x := ⟨_, rfl⟩
      rw [gg4_44] at XV_n4_44 LOv4_44  ⊢
      clear gg4_44 hw'
      try simp only [Act.put, List.setIfInBounds_toArray, List.set_cons_zero, List.set_cons_succ]
      refine wpR_one 18 (by kernel_rfl) ?_
      apply at_run 18 (some 29)
      · simp only [List.getElem?_toArray, List.getElem?_cons_succ, List.getElem?_cons_zero]; exact rfl
      · rfl
      · rfl
      intro w' hw'
      have XV_4_52 := Lib.hid (Whole.below XV_n4_44.out (hw'))
      have E_4_52 := Lib.hid (Ext.trans E_4_46.out (hw'))
      refine ⟨.slice (some ⟨w'.heap.size, 0, none⟩) 0 0, w'.alloc (.cells #[] 5), ?_, Kept.of_below (below1 _ _), ?_⟩
      · go_simp
      have RR_n4_51 : RowKit.Hid (Ow W1 B0 5 1 (.slice (some ⟨w'.heap.size, 0, none⟩) 0 0) 0 [] (w'.alloc (.cells #[] 5))) := Lib.hid (Ow.new_ (e := 5) (size := 1) (cs := #[]) E_4_52.out (Nat.le_of_eq HB0.out) (by have h1 := E_4_52.out.size; have h2 := HB0.out; omega) (n := 0) (Nat.zero_le _) rfl)
      have NE_R_V_4_51 : RowKit.Hid (some g4_44 ≠ (Value.slice (some ⟨w'.heap.size, 0, none⟩) 0 0).ownBlock) := Lib.hid (fun e => by have h1 := Option.some.inj e; have h2 := XV_4_52.out.lt; have h3 : g4_44 = w'.heap.size := h1; omega)
      have XV_4_53 := Lib.hid (Whole.below XV_4_52.out (below1 w' (.cells #[] 5)))
      have E_4_53 := Lib.hid (Ext.trans E_4_52.out (below1 w' (.cells #[] 5)))
      have hkk : Kept (From_ B0) v4_47 (w'.alloc (.cells #[] 5)) := (Kept.of_ext hw').trans (Kept.of_below (below1 _ _))
      obtain ⟨v4_54, gv4_54⟩ : ∃ x, w'.alloc (.cells #[] 5) = x := ⟨_, rfl⟩
      rw [gv4_54] at RR_n4_51 XV_4_53 E_4_53 hkk ⊢
      have ldt4_55 := fun w'' (h : Kept (From_ B0) v4_54 w'') => ldt4_48 w'' (hkk.trans h)
      have ldt4_56 := fun w'' (h : Kept (From_ B0) v4_54 w'') => ldt4_49 w'' (hkk.trans h)
      have ldt4_57 := fun w'' (h : Kept (From_ B0) v4_54 w'') => ldt4_50 w'' (hkk.trans h)
      clear ldt4_48 ldt4_49 ldt4_50
      clear gv4_54 hkk
      obtain ⟨g4_51, gg4_51⟩ : ∃ x, w'.heap.size = x := ⟨_, rfl⟩
      rw [gg4_51] at RR_n4_51 NE_R_V_4_51 ⊢
      clear gg4_51 hw'
      try simp only [Act.put, List.setIfInBounds_toArray, List.set_cons_zero, List.set_cons_succ]
      refine wpR_one 24 (by kernel_rfl) ?_
      apply at_run 24 (some 35)
      · simp only [List.getElem?_toArray, List.getElem?_cons_succ, List.getElem?_cons_zero]; exact rfl
      · rfl
      · rfl
      intro w' hw'
      have RR_4_59 := Lib.hid (Ow.up RR_n4_51.out (hw'))
      have XV_4_59 := Lib.hid (Whole.below XV_4_53.out (hw'))
      have E_4_59 := Lib.hid (Ext.trans E_4_53.out (hw'))
      obtain ⟨vv, w'', hrun, ho, hb, hg, hbk⟩ := Ow.app2 (P := Try.prog) 32 32 5 i0 _ 1 1 _ Try.underlying32 hi hz0 hz1 hz2 rfl (by decide) _ _ _ RR_4_59.out _ _ _ _ _ ((HBX1.out.bl E_4_59.out)) (f8_all _) (by unfold maxLen; omega) (by omega)
      refine ⟨vv, w'', exec_append (by rfl) (by rfl) (by rfl) hrun, Kept.of_from hb, ?_⟩
      have XV_4_58 := Lib.hid (Whole.grown XV_4_59.out hg NE_R_V_4_51.out)
      have NE_R_V_4_58 := Lib.hid (Ow.ne2 NE_R_V_4_51.out XV_4_59.out.lt hbk)
      have E_4_58 : RowKit.Hid (Ext W1 w'') := Lib.hid ho.below
      have hkk : Kept (From_ B0) v4_54 w'' := (Kept.of_ext hw').trans (Kept.of_from hb)
      obtain ⟨AA4_58, cc4_58, rfl, hrr⟩ := ho.rds
      have RR_4_58 := Lib.hid ho
      clear hrr
      obtain ⟨z4_58, gz4_58⟩ : ∃ x, w'' = x := ⟨_, rfl⟩
      rw [gz4_58] at RR_4_58 XV_4_58 E_4_58 hkk ⊢
      have ldt4_60 := fun w'' (h : Kept (From_ B0) z4_58 w'') => ldt4_55 w'' (hkk.trans h)
      have ldt4_61 := fun w'' (h : Kept (From_ B0) z4_58 w'') => ldt4_56 w'' (hkk.trans h)
      have ldt4_62 := fun w'' (h : Kept (From_ B0) z4_58 w'') => ldt4_57 w'' (hkk.trans h)
      clear ldt4_55 ldt4_56 ldt4_57
      clear hkk hrun ho hb hg hbk gz4_58 hw'
      try simp only [Act.put, List.setIfInBounds_toArray, List.set_cons_zero, List.set_cons_succ]
      apply wpR_next 25 (some 36)
      · simp only [List.getElem?_toArray, List.getElem?_cons_succ, List.getElem?_cons_zero]; exact rfl
      · rfl
      · kernel_rfl
      · kernel_rfl
      · kernel_rfl
      · first | exact fun _ _ _ _ h => Exit.noConfusion h.1 | exact fun _ _ _ _ h => h
      apply Exists.intro
      apply And.intro
      · apply yr_run; rfl; intro w' hw'; go_simp; (try with_reducible rfl)
      simp only [Act.put, List.setIfInBounds_toArray, List.set_cons_zero, List.set_cons_succ]
      refine wpR_one 27 (by kernel_rfl) ?_
      apply at_store 27
      · simp only [List.getElem?_toArray, List.getElem?_cons_succ, List.getElem?_cons_zero]; exact rfl
      · rfl
      · rfl
      intro w' hw'
      have RR_4_64 := Lib.hid (Ow.up RR_4_58.out (hw'))
      have XV_4_64 := Lib.hid (Whole.below XV_4_58.out (hw'))
      have E_4_64 := Lib.hid (Ext.trans E_4_58.out (hw'))
      refine ⟨w'.setRow g4_44 #[.int .i64 (a0 : Int), .int .i64 (a1 : Int), .int .i64 (a2 : Int), .int .i64 (num4 a3 a4 a5 a6), .int .i64 (num4 a7 a8 a9 b0), .int .i64 (num4 b1 b2 b3 b4), .slice AA4_58 Bd.length cc4_58], store_row_run 34 (.tmp 4) (.tmp 36) rfl g4_44 rfl [.int .i64 (a0 : Int), .int .i64 (a1 : Int), .int .i64 (a2 : Int), .int .i64 (num4 a3 a4 a5 a6), .int .i64 (num4 a7 a8 a9 b0), .int .i64 (num4 b1 b2 b3 b4), .slice AA4_58 Bd.length cc4_58] rfl 34 [.int .i64 0, .int .i64 0, .int .i64 0, .int .i64 0, .int .i64 0, .int .i64 0, .slice none 0 0] XV_4_64.out (by kernel_rfl) rfl (by simp [Value.oneCell']), kept_row (show B0 ≤ g4_44 by have h1 := LOv4_44.out; have h2 := HB0.out; omega) _, ?_⟩
      have HFRR : RowKit.Hid (∀ a, AA4_58 = some a → B0 ≤ a.block) := Lib.hid (fun a ha => by subst ha; exact (RR_4_64.out.own.lt a.block rfl).1)
      obtain ⟨A_, c_, hv_, hr_⟩ := Ow.rds_row RR_4_64.out NE_R_V_4_58.out #[.int .i64 (a0 : Int), .int .i64 (a1 : Int), .int .i64 (a2 : Int), .int .i64 (num4 a3 a4 a5 a6), .int .i64 (num4 a7 a8 a9 b0), .int .i64 (num4 b1 b2 b3 b4), .slice AA4_58 Bd.length cc4_58]
      obtain ⟨rfl, -, rfl⟩ : AA4_58 = A_ ∧ _ = _ ∧ cc4_58 = c_ := by injection hv_ with a1 a2 a3; exact ⟨a1, a2, a3⟩
      have UR_r4_63 := Lib.hid hr_
      clear hr_ hv_
      have E_r4_63 := Lib.hid (below_row E_4_64.out LOv4_44.out #[.int .i64 (a0 : Int), .int .i64 (a1 : Int), .int .i64 (a2 : Int), .int .i64 (num4 a3 a4 a5 a6), .int .i64 (num4 a7 a8 a9 b0), .int .i64 (num4 b1 b2 b3 b4), .slice AA4_58 Bd.length cc4_58])
      have XV_r4_63 : RowKit.Hid (Whole (w'.setRow g4_44 #[.int .i64 (a0 : Int), .int .i64 (a1 : Int), .int .i64 (a2 : Int), .int .i64 (num4 a3 a4 a5 a6), .int .i64 (num4 a7 a8 a9 b0), .int .i64 (num4 b1 b2 b3 b4), .slice AA4_58 Bd.length cc4_58]) g4_44 34 [.int .i64 (a0 : Int), .int .i64 (a1 : Int), .int .i64 (a2 : Int), .int .i64 (num4 a3 a4 a5 a6), .int .i64 (num4 a7 a8 a9 b0), .int .i64 (num4 b1 b2 b3 b4), .slice AA4_58 Bd.length cc4_58]) := Lib.hid (Whole.row XV_4_64.out [.int .i64 (a0 : Int), .int .i64 (a1 : Int), .int .i64 (a2 : Int), .int .i64 (num4 a3 a4 a5 a6), .int .i64 (num4 a7 a8 a9 b0), .int .i64 (num4 b1 b2 b3 b4), .slice AA4_58 Bd.length cc4_58])
      have hkk : Kept (From_ B0) z4_58 (w'.setRow g4_44 #[.int .i64 (a0 : Int), .int .i64 (a1 : Int), .int .i64 (a2 : Int), .int .i64 (num4 a3 a4 a5 a6), .int .i64 (num4 a7 a8 a9 b0), .int .i64 (num4 b1 b2 b3 b4), .slice AA4_58 Bd.length cc4_58]) := (Kept.of_ext hw').trans (kept_row (show B0 ≤ g4_44 by have h1 := LOv4_44.out; have h2 := HB0.out; omega) _)
      obtain ⟨v4_65, gv4_65⟩ : ∃ x, w'.setRow g4_44 #[.int .i64 (a0 : Int), .int .i64 (a1 : Int), .int .i64 (a2 : Int), .int .i64 (num4 a3 a4 a5 a6), .int .i64 (num4 a7 a8 a9 b0), .int .i64 (num4 b1 b2 b3 b4), .slice AA4_58 Bd.length cc4_58] = x := ⟨_, rfl⟩
      rw [gv4_65] at XV_r4_63 UR_r4_63 E_r4_63 hkk ⊢
      have ldt4_66 := fun w'' (h : Kept (From_ B0) v4_65 w'') => ldt4_60 w'' (hkk.trans h)
      have ldt4_67 := fun w'' (h : Kept (From_ B0) v4_65 w'') => ldt4_61 w'' (hkk.trans h)
      have ldt4_68 := fun w'' (h : Kept (From_ B0) v4_65 w'') => ldt4_62 w'' (hkk.trans h)
      clear ldt4_60 ldt4_61 ldt4_62
      clear gv4_65 hkk
      clear hw'
      try simp only [Act.put, List.setIfInBounds_toArray, List.set_cons_zero, List.set_cons_succ]
      refine wpR_done (by kernel_rfl) ?_ _
      intro wE hwE
      have hxx := Whole.below XV_r4_63.out hwE
      have hyy := RdS.bl UR_r4_63.out hwE
      rw [Nat.zero_add, List.nil_append] at hyy
      refine ⟨rfl, AA4_58, cc4_58, g4_44, _, _, _, _, _, _, _, _, _, _, _, _, _, _, _, _, _, _, _, _, _, _, _, _, _, _, rfl, Lib.hid ⟨?_, ?_, hxx, hyy, fun a ha _ => Nat.le_trans (Nat.le_of_eq HB0.out) (HFRR.out a ha)⟩⟩
      · exact Ext.trans E_r4_63.out hwE
      · exact LOv4_44.out
  intro a' w' h9
  obtain ⟨Ac, cc, g5, u11, u12, u13, u14, u15, u16, u17, u18, u19, u20, u21, u22, u23, u24, u25, u26, u27, u28, u29, u30, u31, u32, u33, u34, u35, u36, rfl, hφ⟩ := h9
  simp only [Act.put, List.setIfInBounds_toArray, List.set_cons_zero, List.set_cons_succ]
  obtain ⟨W4, gW4⟩ : ∃ x, w' = x := ⟨_, rfl⟩
  rw [gW4] at hφ ⊢
  clear gW4
  have HF4 := Lib.hid hφ.out.2.2.1
  have HC4 := Lib.hid hφ.out.2.2.2.1
  have HNC := Lib.hid hφ.out.2.2.2.2
  have HO4 := Lib.hid (HO0.out.below hφ.out.1)
  have HB4 : RowKit.Hid (Below w.heap.size w W4) := Lib.hid (bel_bl HB0'.out hφ.out.1)
  have HNw2 : RowKit.Hid (∀ a, Ac = some a → 0 < Bd.length → g0 < a.block) := Lib.hid (fun a ha hn => Nat.lt_of_lt_of_le HG1.out (HNC.out a ha hn))
  have HNew : RowKit.Hid (∀ a, Ac = some a → 0 < Bd.length → w.heap.size ≤ a.block) := Lib.hid (fun a ha hn => Nat.le_trans HB0'.out.size (HNC.out a ha hn))
  clear hφ HO0 HBX1 HR1 HNC lC0 lC1 lC2 HB0' HZ3 HZ7 HZ11 EX9
  have HP := Lib.hid (rputs_to (⟨(a0 : Int), (a1 : Int), (a2 : Int), num4 a3 a4 a5 a6, num4 a7 a8 a9 b0, num4 b1 b2 b3 b4⟩ : FrT) Ac cc Bd W4 HC4.out HbBd.out)
  unfold frCells at HP
  have HPu : RowKit.Hid (putFr (⟨(a0 : Int), (a1 : Int), (a2 : Int), num4 a3 a4 a5 a6, num4 a7 a8 a9 b0, num4 b1 b2 b3 b4⟩ : FrT) Bd = if mayF (⟨(a0 : Int), (a1 : Int), (a2 : Int), num4 a3 a4 a5 a6, num4 a7 a8 a9 b0, num4 b1 b2 b3 b4⟩ : FrT) Bd.length = 0 then putF (⟨(a0 : Int), (a1 : Int), (a2 : Int), num4 a3 a4 a5 a6, num4 a7 a8 a9 b0, num4 b1 b2 b3 b4⟩ : FrT) Bd else []) := Lib.hid rfl
  have HPl : RowKit.Hid (mayF (⟨(a0 : Int), (a1 : Int), (a2 : Int), num4 a3 a4 a5 a6, num4 a7 a8 a9 b0, num4 b1 b2 b3 b4⟩ : FrT) Bd.length = 0 → ∀ b ∈ putF (⟨(a0 : Int), (a1 : Int), (a2 : Int), num4 a3 a4 a5 a6, num4 a7 a8 a9 b0, num4 b1 b2 b3 b4⟩ : FrT) Bd, b < 256) := Lib.hid (fun h => putF_lt h HbBd.out)
  obtain ⟨z, gz⟩ : ∃ x, mayF (⟨(a0 : Int), (a1 : Int), (a2 : Int), num4 a3 a4 a5 a6, num4 a7 a8 a9 b0, num4 b1 b2 b3 b4⟩ : FrT) Bd.length = x := ⟨_, rfl⟩
  obtain ⟨Q, gQ⟩ : ∃ x, putF (⟨(a0 : Int), (a1 : Int), (a2 : Int), num4 a3 a4 a5 a6, num4 a7 a8 a9 b0, num4 b1 b2 b3 b4⟩ : FrT) Bd = x := ⟨_, rfl⟩
  obtain ⟨Y, gY⟩ : ∃ x, putFr (⟨(a0 : Int), (a1 : Int), (a2 : Int), num4 a3 a4 a5 a6, num4 a7 a8 a9 b0, num4 b1 b2 b3 b4⟩ : FrT) Bd = x := ⟨_, rfl⟩
  rw [gz] at HP HPu HOk HPl
  rw [gQ] at HPu HOk HPl
  rw [gY] at HP HPu
  clear gz gQ gY
  go_upto_region 4 with fail
  refine wp_region_lit ?_
  refine wpList_load_row rfl 34 (.tmp 4) rfl g5 rfl 34 #[.int .i64 (a0 : Int), .int .i64 (a1 : Int), .int .i64 (a2 : Int), .int .i64 (num4 a3 a4 a5 a6), .int .i64 (num4 a7 a8 a9 b0), .int .i64 (num4 b1 b2 b3 b4), .slice Ac Bd.length cc] (0, 0) _ HF4.out Try.underlying34 rfl (by kernel_rfl) ?_
  simp only [Act.put, List.setIfInBounds_toArray, List.set_cons_zero, List.set_cons_succ]
  go_wp2_with fail
  refine HP.out.mono ?_
  rintro e W5 ⟨Ap, np, cp, rfl, hp, hb5⟩
  have HF5 := Lib.hid (HF4.out.below hb5)
  have HO5 := Lib.hid (HO4.out.below hb5)
  have HB5 : RowKit.Hid (Below w.heap.size w W5) := Lib.hid (bel_bl HB4.out hb5)
  have HC5 := Lib.hid (HC4.out.bl hb5)
  have HP5 := Lib.hid hp
  clear hb5 HF4 HO4 HB4 HC4 HP hp
  have HR5 := Lib.hid (HR0.out.up HB5.out HB5.out.size)
  clear HR0
  by_cases hz : z = 0
  case neg =>
    have q : (z == 0) = false := beq_eq_false_iff_ne.2 hz
    have q' : (z != 0) = true := bne_iff_ne.2 hz
    have HOk2 : RowKit.Hid (okF L = false) := Lib.hid (Bool.eq_false_iff.2 (fun e => hz (HOk.out.1 e).1))
    clear hz
    go_upto_region 6 with fail
    refine wp_region_lit ?_
    refine wl_read (v := ?_) (some 51) rfl (by rfl) ?_ ?_
    rotate_left
    · go_simp; (try with_reducible rfl)
    simp only [Act.put, List.setIfInBounds_toArray, List.set_cons_zero, List.set_cons_succ]
    refine wpList_store_row rfl 34 (.tmp 2) (.tmp 51) rfl g0 #[.int .i64 0, .int .i64 0, .int .i64 0, .int .i64 0, .int .i64 0, .int .i64 0, .slice none 0 0] rfl rfl 34 #[.int .i64 0, .int .i64 0, .int .i64 0, .int .i64 0, .int .i64 0, .int .i64 0, .slice none 0 0] HO5.out (by kernel_rfl) rfl (by simp [Value.oneCell']) ?_
    have HO9 : RowKit.Hid (Whole (W5.setRow g0 #[.int .i64 0, .int .i64 0, .int .i64 0, .int .i64 0, .int .i64 0, .int .i64 0, .slice none 0 0]) g0 34 [.int .i64 0, .int .i64 0, .int .i64 0, .int .i64 0, .int .i64 0, .int .i64 0, .slice none 0 0]) := Lib.hid (setRow_heap W5 g0 _ _ _ _ HO5.out)
    have HB9 : RowKit.Hid (Below w.heap.size w (W5.setRow g0 #[.int .i64 0, .int .i64 0, .int .i64 0, .int .i64 0, .int .i64 0, .int .i64 0, .slice none 0 0])) := Lib.hid (below_row HB5.out HG0.out.1 _)
    obtain ⟨W9, gW9⟩ : ∃ x, W5.setRow g0 #[.int .i64 0, .int .i64 0, .int .i64 0, .int .i64 0, .int .i64 0, .int .i64 0, .slice none 0 0] = x := ⟨_, rfl⟩
    rw [gW9] at HO9 HB9 ⊢
    clear gW9 HO5 HB5
    have x0 := HO9.out.cell (i := 0) rfl
    have x1 := HO9.out.cell (i := 1) rfl
    have x2 := HO9.out.cell (i := 2) rfl
    have x3 := HO9.out.cell (i := 3) rfl
    have x4 := HO9.out.cell (i := 4) rfl
    have x5 := HO9.out.cell (i := 5) rfl
    have x6 := HO9.out.cell (i := 6) rfl
    go_wp2
    refine bodyPost_ret (v := .tuple #[.agg #[.int .i64 0, .int .i64 0, .int .i64 0, .int .i64 0, .int .i64 0, .int .i64 0, .slice none 0 0], .int .i64 2]) (by simp [results, Try.results50, go_sem, x0, x1, x2, x3, x4, x5, x6]) rfl (gives_not HOk2.out rfl HB9.out)
  subst hz
  have HY : RowKit.Hid (Y = Q) := Lib.hid (by have := HPu.out; rwa [if_pos rfl] at this)
  have hc1 := conv_txt HP5.out
  have hc2 := conv_txt HR5.out
  have hq := HTx.out Y (by rw [HY.out]; exact HPl.out rfl)
  have HPl2 : True := trivial
  by_cases hy : Y = L
  case neg =>
    rw [decide_eq_false hy] at hq
    have HOk2 : RowKit.Hid (okF L = false) := Lib.hid (Bool.eq_false_iff.2 (fun e => hy (by rw [HY.out]; exact (HOk.out.1 e).2)))
    have hq2 : ((txt Y).toList != (txt L).toList) = true := by rw [bne, hq]; rfl
    clear hy
    go_upto_region 6 with fail
    refine wp_region_lit ?_
    refine wl_read (v := ?_) (some 51) rfl (by rfl) ?_ ?_
    rotate_left
    · go_simp; (try with_reducible rfl)
    simp only [Act.put, List.setIfInBounds_toArray, List.set_cons_zero, List.set_cons_succ]
    refine wpList_store_row rfl 34 (.tmp 2) (.tmp 51) rfl g0 #[.int .i64 0, .int .i64 0, .int .i64 0, .int .i64 0, .int .i64 0, .int .i64 0, .slice none 0 0] rfl rfl 34 #[.int .i64 0, .int .i64 0, .int .i64 0, .int .i64 0, .int .i64 0, .int .i64 0, .slice none 0 0] HO5.out (by kernel_rfl) rfl (by simp [Value.oneCell']) ?_
    have HO9 : RowKit.Hid (Whole (W5.setRow g0 #[.int .i64 0, .int .i64 0, .int .i64 0, .int .i64 0, .int .i64 0, .int .i64 0, .slice none 0 0]) g0 34 [.int .i64 0, .int .i64 0, .int .i64 0, .int .i64 0, .int .i64 0, .int .i64 0, .slice none 0 0]) := Lib.hid (setRow_heap W5 g0 _ _ _ _ HO5.out)
    have HB9 : RowKit.Hid (Below w.heap.size w (W5.setRow g0 #[.int .i64 0, .int .i64 0, .int .i64 0, .int .i64 0, .int .i64 0, .int .i64 0, .slice none 0 0])) := Lib.hid (below_row HB5.out HG0.out.1 _)
    obtain ⟨W9, gW9⟩ : ∃ x, W5.setRow g0 #[.int .i64 0, .int .i64 0, .int .i64 0, .int .i64 0, .int .i64 0, .int .i64 0, .slice none 0 0] = x := ⟨_, rfl⟩
    rw [gW9] at HO9 HB9 ⊢
    clear gW9 HO5 HB5
    have x0 := HO9.out.cell (i := 0) rfl
    have x1 := HO9.out.cell (i := 1) rfl
    have x2 := HO9.out.cell (i := 2) rfl
    have x3 := HO9.out.cell (i := 3) rfl
    have x4 := HO9.out.cell (i := 4) rfl
    have x5 := HO9.out.cell (i := 5) rfl
    have x6 := HO9.out.cell (i := 6) rfl
    go_wp2
    refine bodyPost_ret (v := .tuple #[.agg #[.int .i64 0, .int .i64 0, .int .i64 0, .int .i64 0, .int .i64 0, .int .i64 0, .slice none 0 0], .int .i64 2]) (by simp [results, Try.results50, go_sem, x0, x1, x2, x3, x4, x5, x6]) rfl (gives_not HOk2.out rfl HB9.out)
  rw [decide_eq_true hy] at hq
  have HOk2 : RowKit.Hid (okF L = true) := Lib.hid (HOk.out.2 ⟨rfl, by rw [← HY.out]; exact hy⟩)
  have hq2 : ((txt Y).toList != (txt L).toList) = false := by rw [bne, hq]; rfl
  clear hy
  go_upto_region 7 with fail
  clear hc1 hc2 hq hq2
  refine wp_region_lit ?_
  refine wpList_load_row rfl 34 (.tmp 4) rfl g5 rfl 34 #[.int .i64 (a0 : Int), .int .i64 (a1 : Int), .int .i64 (a2 : Int), .int .i64 (num4 a3 a4 a5 a6), .int .i64 (num4 a7 a8 a9 b0), .int .i64 (num4 b1 b2 b3 b4), .slice Ac Bd.length cc] (0, 0) _ HF5.out Try.underlying34 rfl (by kernel_rfl) ?_
  simp only [Act.put, List.setIfInBounds_toArray, List.set_cons_zero, List.set_cons_succ]
  refine wpList_store_row rfl 34 (.tmp 2) (.tmp 52) rfl g0 #[.int .i64 (a0 : Int), .int .i64 (a1 : Int), .int .i64 (a2 : Int), .int .i64 (num4 a3 a4 a5 a6), .int .i64 (num4 a7 a8 a9 b0), .int .i64 (num4 b1 b2 b3 b4), .slice Ac Bd.length cc] rfl rfl 34 #[.int .i64 0, .int .i64 0, .int .i64 0, .int .i64 0, .int .i64 0, .int .i64 0, .slice none 0 0] HO5.out (by kernel_rfl) rfl (by simp [Value.oneCell']) ?_
  have HO9 : RowKit.Hid (Whole (W5.setRow g0 #[.int .i64 (a0 : Int), .int .i64 (a1 : Int), .int .i64 (a2 : Int), .int .i64 (num4 a3 a4 a5 a6), .int .i64 (num4 a7 a8 a9 b0), .int .i64 (num4 b1 b2 b3 b4), .slice Ac Bd.length cc]) g0 34 [.int .i64 (a0 : Int), .int .i64 (a1 : Int), .int .i64 (a2 : Int), .int .i64 (num4 a3 a4 a5 a6), .int .i64 (num4 a7 a8 a9 b0), .int .i64 (num4 b1 b2 b3 b4), .slice Ac Bd.length cc]) := Lib.hid (setRow_heap W5 g0 _ _ _ _ HO5.out)
  have HB9 : RowKit.Hid (Below w.heap.size w (W5.setRow g0 #[.int .i64 (a0 : Int), .int .i64 (a1 : Int), .int .i64 (a2 : Int), .int .i64 (num4 a3 a4 a5 a6), .int .i64 (num4 a7 a8 a9 b0), .int .i64 (num4 b1 b2 b3 b4), .slice Ac Bd.length cc])) := Lib.hid (below_row HB5.out HG0.out.1 _)
  have HC9 := Lib.hid (HC5.out.row_far (g := g0) (fun a ha hn e => by have h1 := HNw2.out a ha hn; have h2 := Option.some.inj e; omega) #[.int .i64 (a0 : Int), .int .i64 (a1 : Int), .int .i64 (a2 : Int), .int .i64 (num4 a3 a4 a5 a6), .int .i64 (num4 a7 a8 a9 b0), .int .i64 (num4 b1 b2 b3 b4), .slice Ac Bd.length cc])
  obtain ⟨W9, gW9⟩ : ∃ x, W5.setRow g0 #[.int .i64 (a0 : Int), .int .i64 (a1 : Int), .int .i64 (a2 : Int), .int .i64 (num4 a3 a4 a5 a6), .int .i64 (num4 a7 a8 a9 b0), .int .i64 (num4 b1 b2 b3 b4), .slice Ac Bd.length cc] = x := ⟨_, rfl⟩
  rw [gW9] at HO9 HB9 HC9 ⊢
  clear gW9 HO5 HB5 HC5 HF5
  have x0 := HO9.out.cell (i := 0) rfl
  have x1 := HO9.out.cell (i := 1) rfl
  have x2 := HO9.out.cell (i := 2) rfl
  have x3 := HO9.out.cell (i := 3) rfl
  have x4 := HO9.out.cell (i := 4) rfl
  have x5 := HO9.out.cell (i := 5) rfl
  have x6 := HO9.out.cell (i := 6) rfl
  go_wp2
  refine bodyPost_ret (v := .tuple #[.agg #[.int .i64 (a0 : Int), .int .i64 (a1 : Int), .int .i64 (a2 : Int), .int .i64 (num4 a3 a4 a5 a6), .int .i64 (num4 a7 a8 a9 b0), .int .i64 (num4 b1 b2 b3 b4), .slice Ac Bd.length cc], .int .i64 0]) (by simp [results, Try.results50, go_sem, x0, x1, x2, x3, x4, x5, x6]) rfl ?_
  refine gives_yes (A := Ac) (c := cc) HOk2.out ?_ ?_ ?_ HB9.out
  · rw [HBd.out, HFr.out]; rfl
  · rw [HBd.out]; exact HC9.out
  · rw [HBd.out]; exact HNew.out
theorem rtake_any (A : Option Addr) (n c : Nat) (L : List Nat) (w : World) (h : RdS w w.heap.size 1 A n c (rowsV f8 L)) (hb : ∀ b ∈ L, b < 256) (hn : n ≤ 100000) :
    Calls Try.prog 50 #[.slice A n c] w (GivesT w L) := by
  have hl := h.rlen f8_len (by decide)
  by_cases h1 : n < 19
  · exact (rtake_a A n c L w h1).mono fun e w' ⟨h2, h3⟩ => gives_not (by unfold okF; rw [decide_eq_false (by omega : ¬ (19 ≤ L.length ∧ L.length ≤ 16403))]; rfl) h2 h3
  · exact rtake_b A n c L w h hb (by omega) hn
end Go.Proofs.Ytibbibpfnpjjdaa

/- The document's net in memory. -/
namespace Go.Proofs.Ytibbibpfnpjjdaa
open Go.RowKit
set_option linter.unusedSimpArgs false
set_option linter.unusedVariables false

def ytC (A : Option Addr) (n c : Nat) (T : List Int) : List Value := .slice A n c :: T.map (.int .i64)
def YtT (y : Nat) (A : Option Addr) (b : Nat) : Prop := b = y ∨ some b = wayB A
structure YtIn (B : Nat) (w : World) (y : Nat) (A : Option Addr) (c : Nat) (es : List Sl) (s : NtS) : Prop where
  box : Whole w y 30 (ytC A s.1.length c s.2)
  lo : B ≤ y
  own : w.ownsRow B 32 1 (.slice A s.1.length c) s.1.length (rowsV slc es)
  each : Byts w es s.1
theorem YtIn.row {B : Nat} {w : World} {y : Nat} {A : Option Addr} {c : Nat} {es : List Sl} {s : NtS} (h : YtIn B w y A c es s) : RdS w w.heap.size 1 A s.1.length c (rowsV slc es) := own_rds h.own
theorem YtIn.eslen {B : Nat} {w : World} {y : Nat} {A : Option Addr} {c : Nat} {es : List Sl} {s : NtS} (h : YtIn B w y A c es s) : es.length = s.1.length := h.row.rlen slc_len (by decide)
theorem YtIn.nob {B : Nat} {w : World} {y : Nat} {A : Option Addr} {c : Nat} {es : List Sl} {s : NtS} (h : YtIn B w y A c es s) : ∀ b, YtT y A b → NoB w b := by
  rintro b (rfl | hb)
  · exact nob_whole h.box (by decide)
  · exact nob_own h.own (by decide) hb
theorem YtIn.lt {B : Nat} {w : World} {y : Nat} {A : Option Addr} {c : Nat} {es : List Sl} {s : NtS} (h : YtIn B w y A c es s) : ∀ b, YtT y A b → B ≤ b ∧ b < w.heap.size := by
  rintro b (rfl | hb)
  · exact ⟨h.lo, h.box.lt⟩
  · exact h.own.lt b ((wayB_own _ _ _).trans hb.symm)
theorem YtIn.keep {S : Nat → Prop} {B : Nat} {w w' : World} {y : Nat} {A : Option Addr} {c : Nat} {es : List Sl} {s : NtS} (h : YtIn B w y A c es s) (hk : Kept S w w') (h1 : ∀ b, YtT y A b → ¬ S b) (h2 : ∀ b, S b → NoB w b) : YtIn B w' y A c es s :=
  ⟨hk.whole h.box (h1 _ (.inl rfl)), h.lo, own_kept h.own hk (fun b hb => h1 b (.inr (hb.symm.trans (wayB_own _ _ _)))), h.each.kept hk h2⟩
theorem YtIn.below {B : Nat} {w w' : World} {y : Nat} {A : Option Addr} {c : Nat} {es : List Sl} {s : NtS} (h : YtIn B w y A c es s) (hb : Below w.heap.size w w') : YtIn B w' y A c es s :=
  h.keep (S := fun _ => False) (Kept.of_below hb) (fun _ _ e => e) (fun _ e => e.elim)
theorem YtIn.drew {B : Nat} {w : World} {y : Nat} {A : Option Addr} {c : Nat} {es : List Sl} {s : NtS} (h : YtIn B w y A c es s) : YtIn B w.drew y A c es s := h.below ((Below.refl _ _).drew)
/-- A new row: the net's box told of it. -/
theorem YtIn.way {B : Nat} {w w1 w2 : World} {y : Nat} {A A' : Option Addr} {c c' : Nat} {es es' : List Sl} {s : NtS} {L' : List (List Nat)} (h : YtIn B w y A c es s) (hb : Below w.heap.size w w1) (he2 : w2 = w1.setCell ⟨y, 0, none⟩ (.slice A' L'.length c'))
    (ho : w1.ownsRow w.heap.size 32 1 (.slice A' L'.length c') L'.length (rowsV slc es')) (he : Byts w1 es' L') : YtIn B w2 y A' c' es' (L', s.2) ∧ NtGo w w2 (YtT y A) (YtT y A') := by
  subst he2
  have hB : B ≤ w.heap.size := by have := h.lo; have := h.box.lt; omega
  have hk : Kept (fun b => b = y) w1 (w1.setCell ⟨y, 0, none⟩ (.slice A' L'.length c')) := (Kept.refl (fun b => b = y) _).setCell (p := ⟨y, 0, none⟩) (.inl rfl) _
  have hx := h.below hb
  refine ⟨⟨hx.box.set_ 0 _, h.lo, own_lo (own_cell_far ho (fun q => ?_) _) hB, he.kept hk (fun b q => by rw [show b = y from q]; exact nob_whole hx.box (by decide))⟩, ⟨((Kept.of_below hb).trans (hk.wider (fun i _ e => .inl e))), ?_⟩⟩
  · rw [wayB_own] at q
    obtain ⟨cs, h1⟩ := own_whole ho q
    exact hx.box.ne_ h1 (by decide) rfl
  · rintro b (rfl | q)
    · exact .inl (.inl rfl)
    · exact .inr (ho.lt b ((wayB_own _ _ _).trans q.symm)).1
theorem ytC_bump (A : Option Addr) (n c : Nat) (T : List Int) (k : Nat) (x : Int) (hx : x = T.getD k 0 + 1) : (ytC A n c T).set (1 + k) (.int .i64 x) = ytC A n c (bump T k) := by
  subst hx
  unfold ytC bump
  rw [Nat.add_comm, List.set_cons_succ, List.map_set]
/-- A count more. -/
theorem YtIn.bump {B : Nat} {w w2 : World} {y : Nat} {A : Option Addr} {c : Nat} {es : List Sl} {s : NtS} (h : YtIn B w y A c es s) (k : Nat) (x : Int) (hx : x = s.2.getD k 0 + 1) (he : w2 = w.setCell ⟨y, 1 + k, none⟩ (.int .i64 x)) : YtIn B w2 y A c es (s.1, bump s.2 k) ∧ NtGo w w2 (YtT y A) (YtT y A) := by
  subst he
  have hk : Kept (fun b => b = y) w (w.setCell ⟨y, 1 + k, none⟩ (.int .i64 x)) := (Kept.refl (fun b => b = y) _).setCell (p := ⟨y, 1 + k, none⟩) (.inl rfl) _
  refine ⟨⟨(h.box.set_ (1 + k) _).conv (ytC_bump _ _ _ _ _ _ hx), h.lo, own_cell_far h.own (fun q => ?_) _, h.each.kept hk (fun b q => by rw [show b = y from q]; exact nob_whole h.box (by decide))⟩, ⟨hk.wider (fun i _ e => .inl e), fun b q => .inl q⟩⟩
  rw [wayB_own] at q
  obtain ⟨cs, h1⟩ := own_whole h.own q
  exact h.box.ne_ h1 (by decide) rfl
theorem yt_cell {A : Option Addr} {n c : Nat} {T : List Int} {k : Nat} (hk : k < T.length) : (ytC A n c T)[1 + k]? = some (.int .i64 (T.getD k 0)) := by
  unfold ytC
  rw [Nat.add_comm, List.getElem?_cons_succ, List.getElem?_map, List.getD_eq_getElem?_getD, List.getElem?_eq_getElem hk]
  rfl
/-- An append to a row of the call's own. -/
theorem ow_app {w0 W : World} {v : Value} {n : Nat} {es : List Sl} (hO : Ow w0 w0.heap.size 32 1 v n (rowsV slc es) W) (A : Option Addr) (m c : Nat) (es2 : List Sl) (hr : RdS W W.heap.size 1 A m c (rowsV slc es2)) (hn : n + m ≤ 100000) :
    ∃ A' c' W', (Builtin.append_ #[27, 27] 27 #[v, .slice A m c]).run Try.prog W = .ok (.slice A' (n + m) c') W' ∧ Ow w0 w0.heap.size 32 1 (.slice A' (n + m) c') (n + m) (rowsV slc (es ++ es2)) W' ∧ Below w0.heap.size W W' := by
  obtain ⟨i0, hi, hz0, hz1, hz2⟩ := info_parts_ info_sl
  obtain ⟨v', W', hrun, ho, hb, _, _⟩ := Ow.app2 (P := Try.prog) 27 27 32 i0 _ 1 24 _ Try.underlying27 hi hz0 hz1 hz2 rfl (by decide) _ _ _ hO W.heap.size A m c _ hr (slc_all es2) (by unfold maxLen; omega) (by omega)
  rw [← rowsV_app] at ho
  obtain ⟨A', c', rfl, _⟩ := ho.rds
  exact ⟨A', c', W', hrun, ho, hb⟩
end Go.Proofs.Ytibbibpfnpjjdaa
