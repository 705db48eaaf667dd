/- Several texts in one. -/
import Derived.Test.YtibbibpfnpjjdaaNAF
import Derived.Test.YtibbibpfnpjjdaaNAE

/- The document's net: what is gone. -/
namespace Go.Proofs.Ytibbibpfnpjjdaa
open Go.RowKit
set_option linter.unusedSimpArgs false
set_option linter.unusedVariables false

theorem own_as {w : World} {B n c : Nat} {A : Option Addr} {es es' : List Sl} (h : es' = es) (ho : w.ownsRow B 32 1 (.slice A n c) n (rowsV slc es')) : w.ownsRow B 32 1 (.slice A n c) n (rowsV slc es) := h ▸ ho
set_option maxRecDepth 100000 in
set_option maxHeartbeats 4000000 in
theorem yt_gone {B : Nat} {y : Nat} {A : Option Addr} {c : Nat} {es : List Sl} {s : NtS} (w : World) (h : YtIn B w y A c es s) (hs : NtOk s) (i : Int) (hi : hasN s i = true) :
    Calls Try.prog 49 #[.pointer (some ⟨y, 0, none⟩), .int .i64 i] w fun e w' => e = .returned (.tuple #[]) ∧ ∃ A' c' es', YtIn B w' y A' c' es' (s.1.eraseIdx i.toNat, s.2) ∧ NtGo w w' (YtT y A) (YtT y A') := by
  obtain ⟨m, rfl⟩ : ∃ m : Nat, i = (m : Int) := ⟨i.toNat, by have := (of_decide_eq_true hi).1; omega⟩
  have hm : m < s.1.length := by have := (of_decide_eq_true hi).2; omega
  have hmx := hs.max
  have hcap := own_cap h.own
  have hrow := h.drew.row
  have hel := h.eslen
  have hlen := hrow.le
  obtain ⟨b, o, rfl, hlt, -⟩ := hrow.place slc_len (by decide) (by omega)
  obtain ⟨j, gj⟩ : ∃ j, m + 1 = j := ⟨_, rfl⟩
  have hr1 := hrow.take_ m (by omega)
  rw [← rowsV_take slc slc_len] at hr1
  have hr2 := hrow.low_ (k := j) (by omega)
  rw [← rowsV_drop slc slc_len, Nat.mul_one] at hr2
  obtain ⟨A9, gA9⟩ : ∃ z, (if c = j then (some ⟨b, o, none⟩ : Option Addr) else (some (⟨b, o, none⟩ : Addr)).map (·.add j)) = z := ⟨_, rfl⟩
  rw [gA9] at hr2
  have HA9 : RowKit.Hid ((if c = j then (some ⟨b, o, none⟩ : Option Addr) else (some (⟨b, o, none⟩ : Addr)).map (·.add (j * 1))) = A9) := Lib.hid (by rw [Nat.mul_one]; exact gA9)
  have HR1 := Lib.hid hr1
  have HR2 := Lib.hid hr2
  have H := Lib.hid h.drew
  have HE : RowKit.Hid ([] ++ es.take m ++ es.drop j = es.eraseIdx m) := Lib.hid (by rw [List.nil_append, ← gj, List.eraseIdx_eq_take_drop_succ])
  have hl0 : (s.1.eraseIdx m).length = s.1.length - 1 := erase_len hm
  obtain ⟨B0, gB0⟩ : ∃ z, w.drew.heap.size = z := ⟨_, rfl⟩
  have HB0 := Lib.hid gB0
  have ld0 : ∀ w', Kept (From_ B0) w.drew w' → w'.cell? ⟨y, 0, none⟩ = some (.slice (some ⟨b, o, none⟩) s.1.length c) := fun w' hk => hk.from_cell (show y < B0 from gB0 ▸ h.box.lt) (h.drew.box.cell (i := 0) rfl)
  obtain ⟨n, gn⟩ : ∃ n, s.1.length = n := ⟨_, rfl⟩
  have HL : RowKit.Hid ((s.1.eraseIdx m).length = 0 + m + (n - j)) := Lib.hid (by omega)
  unfold maxLen at hcap
  rw [gn] at ld0 hr2 HR2 hm hmx hlen
  have hw1 : IntKind.i64.wrap ((m : Int) + 1) = (j : Int) := by rw [IntWalk.i64_in _ (by omega)]; omega
  have hmc : m ≤ c := by omega
  have hjn : j ≤ n := by omega
  clear gB0 hi hs hcap hrow hel hlen hlt gj hr1 hr2 gA9 hl0 gn h
  go_enter Try.func49, Try.ntmps49
  go_upto_region 0 with fail
  refine wp_region_tail (From_ B0) [19] (by kernel_rfl) ?_
  apply wpT_next 0 (some 4) (by kernel_rfl)
  · simp only [List.getElem?_toArray, List.getElem?_cons_succ, List.getElem?_cons_zero]; exact rfl
  · rfl
  · kernel_rfl
  · kernel_rfl
  · kernel_rfl
  · exact fun _ _ _ _ h => h
  apply Exists.intro
  apply And.intro
  · apply yr_run; rfl; intro w' hw'; go_simp; (try with_reducible rfl)
  simp only [Act.put, List.setIfInBounds_toArray, List.set_cons_zero, List.set_cons_succ]
  apply wpT_next 2 (some 6) (by kernel_rfl)
  · simp only [List.getElem?_toArray, List.getElem?_cons_succ, List.getElem?_cons_zero]; exact rfl
  · rfl
  · kernel_rfl
  · kernel_rfl
  · kernel_rfl
  · exact fun _ _ _ _ h => h
  apply Exists.intro
  apply And.intro
  · apply yr_run; rfl; intro w' hw'; go_simp; (try with_reducible rfl)
  simp only [Act.put, List.setIfInBounds_toArray, List.set_cons_zero, List.set_cons_succ]
  apply wpT_next 3 (some 7) (by kernel_rfl)
  · simp only [List.getElem?_toArray, List.getElem?_cons_succ, List.getElem?_cons_zero]; exact rfl
  · rfl
  · kernel_rfl
  · kernel_rfl
  · kernel_rfl
  · exact fun _ _ _ _ h => h
  apply Exists.intro
  apply And.intro
  · apply yr_run; rfl; intro w' hw'; go_simp; (try with_reducible rfl)
  simp only [Act.put, List.setIfInBounds_toArray, List.set_cons_zero, List.set_cons_succ]
  apply wpT_next 4 (some 8) (by kernel_rfl)
  · simp only [List.getElem?_toArray, List.getElem?_cons_succ, List.getElem?_cons_zero]; exact rfl
  · rfl
  · kernel_rfl
  · kernel_rfl
  · kernel_rfl
  · exact fun _ _ _ _ h => h
  apply Exists.intro
  apply And.intro
  · apply yr_run; rfl; intro w' hw'; go_simp; (try with_reducible rfl)
  simp only [Act.put, List.setIfInBounds_toArray, List.set_cons_zero, List.set_cons_succ]
  apply wpT_next 5 (some 9) (by kernel_rfl)
  · simp only [List.getElem?_toArray, List.getElem?_cons_succ, List.getElem?_cons_zero]; exact rfl
  · rfl
  · kernel_rfl
  · kernel_rfl
  · kernel_rfl
  · exact fun _ _ _ _ h => h
  apply Exists.intro
  apply And.intro
  · apply yr_run; rfl; intro w' hw'; go_simp; (try with_reducible rfl)
  simp only [Act.put, List.setIfInBounds_toArray, List.set_cons_zero, List.set_cons_succ]
  apply wpT_next 6 (some 10) (by kernel_rfl)
  · simp only [List.getElem?_toArray, List.getElem?_cons_succ, List.getElem?_cons_zero]; exact rfl
  · rfl
  · kernel_rfl
  · kernel_rfl
  · kernel_rfl
  · exact fun _ _ _ _ h => h
  apply Exists.intro
  apply And.intro
  · apply yr_run; rfl; intro w' hw'; go_simp; (try with_reducible rfl)
  simp only [Act.put, List.setIfInBounds_toArray, List.set_cons_zero, List.set_cons_succ]
  apply wpT_next 7 (some 11) (by kernel_rfl)
  · simp only [List.getElem?_toArray, List.getElem?_cons_succ, List.getElem?_cons_zero]; exact rfl
  · rfl
  · kernel_rfl
  · kernel_rfl
  · kernel_rfl
  · exact fun _ _ _ _ h => h
  apply Exists.intro
  apply And.intro
  · apply yr_run; rfl; intro w' hw'; exact exec_slice_high 27 32 (.tmp 9) (.tmp 10) rfl Try.underlying27 (s := 1) (by kernel_rfl) rfl rfl hmc
  simp only [Act.put, List.setIfInBounds_toArray, List.set_cons_zero, List.set_cons_succ]
  apply wpT_next 9 (some 13) (by kernel_rfl)
  · simp only [List.getElem?_toArray, List.getElem?_cons_succ, List.getElem?_cons_zero]; exact rfl
  · rfl
  · kernel_rfl
  · kernel_rfl
  · kernel_rfl
  · exact fun _ _ _ _ h => h
  apply Exists.intro
  apply And.intro
  · apply yr_run; rfl; intro w' hw'; go_simp; (try with_reducible rfl)
  simp only [Act.put, List.setIfInBounds_toArray, List.set_cons_zero, List.set_cons_succ]
  apply wpT_next 10 (some 14) (by kernel_rfl)
  · simp only [List.getElem?_toArray, List.getElem?_cons_succ, List.getElem?_cons_zero]; exact rfl
  · rfl
  · kernel_rfl
  · kernel_rfl
  · kernel_rfl
  · exact fun _ _ _ _ h => h
  apply Exists.intro
  apply And.intro
  · apply yr_run; rfl; intro w' hw'; go_simp; (try with_reducible rfl)
  simp only [Act.put, List.setIfInBounds_toArray, List.set_cons_zero, List.set_cons_succ]
  apply wpT_next 11 (some 15) (by kernel_rfl)
  · simp only [List.getElem?_toArray, List.getElem?_cons_succ, List.getElem?_cons_zero]; exact rfl
  · rfl
  · kernel_rfl
  · kernel_rfl
  · kernel_rfl
  · exact fun _ _ _ _ h => h
  apply Exists.intro
  apply And.intro
  · apply yr_run; rfl; intro w' hw'; go_simp; (try with_reducible rfl)
  simp only [Act.put, List.setIfInBounds_toArray, List.set_cons_zero, List.set_cons_succ]
  apply wpT_next 12 (some 16) (by kernel_rfl)
  · simp only [List.getElem?_toArray, List.getElem?_cons_succ, List.getElem?_cons_zero]; exact rfl
  · rfl
  · kernel_rfl
  · kernel_rfl
  · kernel_rfl
  · exact fun _ _ _ _ h => h
  apply Exists.intro
  apply And.intro
  · apply yr_run; rfl; intro w' hw'; go_simp; (try with_reducible rfl)
  simp only [Act.put, List.setIfInBounds_toArray, List.set_cons_zero, List.set_cons_succ]
  apply wpT_next 13 (some 17) (by kernel_rfl)
  · simp only [List.getElem?_toArray, List.getElem?_cons_succ, List.getElem?_cons_zero]; exact rfl
  · rfl
  · kernel_rfl
  · kernel_rfl
  · kernel_rfl
  · exact fun _ _ _ _ h => h
  apply Exists.intro
  apply And.intro
  · apply yr_run; rfl; intro w' hw'; go_simp; (try with_reducible rfl)
  simp only [Act.put, List.setIfInBounds_toArray, List.set_cons_zero, List.set_cons_succ]
  apply wpT_next 14 (some 18) (by kernel_rfl)
  · simp only [List.getElem?_toArray, List.getElem?_cons_succ, List.getElem?_cons_zero]; exact rfl
  · rfl
  · kernel_rfl
  · kernel_rfl
  · kernel_rfl
  · exact fun _ _ _ _ h => h
  apply Exists.intro
  apply And.intro
  · apply yr_run; rfl; intro w' hw'; go_simp; (try with_reducible rfl)
  simp only [Act.put, List.setIfInBounds_toArray, List.set_cons_zero, List.set_cons_succ]
  apply wpT_next 15 (some 19) (by kernel_rfl)
  · simp only [List.getElem?_toArray, List.getElem?_cons_succ, List.getElem?_cons_zero]; exact rfl
  · rfl
  · kernel_rfl
  · kernel_rfl
  · kernel_rfl
  · exact fun _ _ _ _ h => h
  apply Exists.intro
  apply And.intro
  · apply yr_run; rfl; intro w' hw'; exact exec_slice_low_as 27 32 (.tmp 16) (.tmp 18) rfl Try.underlying27 (s := 1) (by kernel_rfl) rfl rfl hjn HA9.out rfl rfl
  simp only [Act.put, List.setIfInBounds_toArray, List.set_cons_zero, List.set_cons_succ]
  apply wpT_run 1 (some 5)
  · simp only [List.getElem?_toArray, List.getElem?_cons_succ, List.getElem?_cons_zero]; exact rfl
  · rfl
  · kernel_rfl
  · rfl
  intro w' hw'
  refine ⟨.slice (some ⟨w'.heap.size, 0, none⟩) 0 0, w'.alloc (.cells #[] 32), ?_, Kept.of_below (below1 _ _), ?_⟩
  · go_simp; first | done | exact rfl
  have HO1 : RowKit.Hid (Ow w.drew w.drew.heap.size 32 1 (.slice (some ⟨w'.heap.size, 0, none⟩) 0 0) 0 (rowsV slc []) (w'.alloc (.cells #[] 32))) := Lib.hid (Ow.new_ (cs := #[]) hw' (Nat.le_refl _) hw'.size (Nat.zero_le _) rfl)
  obtain ⟨W1, gW1⟩ : ∃ x, w'.alloc (.cells #[] 32) = x := ⟨_, rfl⟩
  obtain ⟨v1, gv1⟩ : ∃ x : Value, .slice (some ⟨w'.heap.size, 0, none⟩) 0 0 = x := ⟨_, rfl⟩
  rw [gW1, gv1] at HO1
  rw [gW1, gv1]
  clear hw' gW1 gv1
  simp only [Act.put, List.setIfInBounds_toArray, List.set_cons_zero, List.set_cons_succ]
  apply wpT_run 8 (some 12)
  · simp only [List.getElem?_toArray, List.getElem?_cons_succ, List.getElem?_cons_zero]; exact rfl
  · rfl
  · kernel_rfl
  · rfl
  intro w' hw'
  have hO := HO1.out.up hw'
  obtain ⟨A2, c2, w'', hrun, hO2, hb2⟩ := ow_app hO (some ⟨b, o, none⟩) m c (es.take m) (HR1.out.up hO.below hO.below.size) (by omega)
  refine ⟨_, w'', exec_append (by rfl) (by rfl) (by rfl) hrun, (by rw [← HB0.out]; exact Kept.of_from hb2), ?_⟩
  have HO2 := Lib.hid hO2
  clear hw' hO hrun hO2 hb2 HO1
  obtain ⟨W2, gW2⟩ : ∃ x, w'' = x := ⟨_, rfl⟩
  rw [gW2] at HO2 ⊢
  clear gW2
  simp only [Act.put, List.setIfInBounds_toArray, List.set_cons_zero, List.set_cons_succ]
  apply wpT_run 16 (some 20)
  · simp only [List.getElem?_toArray, List.getElem?_cons_succ, List.getElem?_cons_zero]; exact rfl
  · rfl
  · kernel_rfl
  · rfl
  intro w' hw'
  have hO := HO2.out.up hw'
  obtain ⟨A3, c3, w'', hrun, hO2, hb2⟩ := ow_app hO A9 (n - j) (c - j) (es.drop j) (HR2.out.up hO.below hO.below.size) (by omega)
  refine ⟨_, w'', exec_append (by rfl) (by rfl) (by rfl) hrun, (by rw [← HB0.out]; exact Kept.of_from hb2), ?_⟩
  have HO3 := Lib.hid hO2
  clear hw' hO hrun hO2 hb2 HO2
  obtain ⟨W3, gW3⟩ : ∃ x, w'' = x := ⟨_, rfl⟩
  rw [gW3] at HO3 ⊢
  clear gW3
  simp only [Act.put, List.setIfInBounds_toArray, List.set_cons_zero, List.set_cons_succ]
  apply wpT_run 17 (some 21)
  · simp only [List.getElem?_toArray, List.getElem?_cons_succ, List.getElem?_cons_zero]; exact rfl
  · rfl
  · kernel_rfl
  · rfl
  intro w' hw'
  apply Exists.intro
  apply Exists.intro
  apply And.intro
  · go_simp; first | done | exact ⟨rfl, rfl⟩ | exact rfl
  apply And.intro
  · exact Kept.refl _ _
  have hpd17 := hw'
  clear hw'
  simp only [Act.put, List.setIfInBounds_toArray, List.set_cons_zero, List.set_cons_succ]
  apply wpT_next 18 (some 22) (by kernel_rfl)
  · simp only [List.getElem?_toArray, List.getElem?_cons_succ, List.getElem?_cons_zero]; exact rfl
  · rfl
  · kernel_rfl
  · kernel_rfl
  · kernel_rfl
  · exact fun _ _ _ _ h => h
  apply Exists.intro
  apply And.intro
  · apply yr_run; rfl; intro w' hw'; go_simp; (try with_reducible rfl)
  simp only [Act.put, List.setIfInBounds_toArray, List.set_cons_zero, List.set_cons_succ]
  apply wpT_last 19
  · simp only [List.getElem?_toArray, List.getElem?_cons_succ, List.getElem?_cons_zero]; exact rfl
  · rfl
  · kernel_rfl
  · rfl
  · decide
  intro w' hw'
  replace hw' := Ext.trans hpd17 hw'
  clear hpd17
  have hO := HO3.out.up hw'
  have hN := H.out.below (show Below w.drew.heap.size w.drew w' from hO.below)
  have hcl := hN.box.cell (i := 0) rfl
  have hfr := hN.box.free 0
  refine ⟨w'.setCell ⟨y, 0, none⟩ (.slice A3 (0 + m + (n - j)) c3), ?_, ?_⟩
  · go_simp; first | done | exact rfl
  have HW := Lib.hid (H.out.way hO.below rfl (L' := s.1.eraseIdx m) (by rw [HL.out]; exact own_as HE.out hO.own) (hN.each.erase m))
  rw [HL.out] at HW
  obtain ⟨W5, gW5⟩ : ∃ x, w'.setCell ⟨y, 0, none⟩ (.slice A3 (0 + m + (n - j)) c3) = x := ⟨_, rfl⟩
  rw [gW5] at HW ⊢
  clear hw' hO hN hcl hfr gW5 HO3
  try simp only [Act.put, List.setIfInBounds_toArray, List.set_cons_zero, List.set_cons_succ]
  refine wpT_done (by kernel_rfl) ?_ _
  intro W6 hw6
  have hy6 := HW.out.1.below hw6
  have HY6 := Lib.hid hy6
  have HG6 : RowKit.Hid (NtGo w W6 _ _) := Lib.hid ((NtGo.below (S := YtT y (some ⟨b, o, none⟩)) ((Below.refl _ _).drew)).trans (HW.out.2.trans (NtGo.below hw6)))
  clear hw6 hy6 HW ld0
  go_wp2
  go_end0
  exact ⟨rfl, _, _, _, HY6.out, HG6.out⟩
end Go.Proofs.Ytibbibpfnpjjdaa

/- The net: Deliver. -/
namespace Go.Proofs.Ytibbibpfnpjjdaa
open Go.RowKit
set_option linter.unusedSimpArgs false
set_option linter.unusedVariables false

def GivesDl (B g t : Nat) (go : Option Nat) (A : Option Addr) (c : Nat) (s : NtS) (i : Int) (w : World) (e : Ending) (w' : World) : Prop :=
  ∃ A1 c1, e = .returned (.tuple #[.agg (frCells (atR s i).1 A1 (atR s i).2.1.length c1).toArray, .int .i64 (atR s i).2.2]) ∧ RdS w' w'.heap.size 1 A1 (atR s i).2.1.length c1 (rowsV f8 (atR s i).2.1) ∧ (∀ a, A1 = some a → 0 < (atR s i).2.1.length → w.heap.size ≤ a.block) ∧ ∃ go' es', NtIn B w' g t go' A c es' (delivN s i) ∧ NtGo w w' (NtT g t go (wayB A)) (NtT g t go' (wayB A))
theorem NtIn.noFrame {B : Nat} {w : World} {g t : Nat} {go : Option Nat} {A : Option Addr} {c : Nat} {es : List Sl} {s : NtS} (h : NtIn B w g t go A c es s) {b : Nat} (hb : NtT g t go (wayB A) b) {cs : List Value} (hw : Whole w b 34 cs) : False := by
  obtain ⟨⟨c1, h1⟩, h2⟩ := tl_types h.tal
  rcases hb with rfl | rfl | hb | hb
  · exact h.box.ne_ hw (by decide) rfl
  · exact h1.ne_ hw (by decide) rfl
  · obtain ⟨c2, h3⟩ := h2 b hb.symm
    exact h3.ne_ hw (by decide) rfl
  · obtain ⟨c2, h3⟩ := own_whole h.own hb
    exact h3.ne_ hw (by decide) rfl
set_option maxRecDepth 100000 in
set_option maxHeartbeats 1000000 in
theorem nt_deliv_no {B : Nat} {g t : Nat} {go : Option Nat} {A : Option Addr} {c : Nat} {es : List Sl} {s : NtS} (w : World) (h : NtIn B w g t go A c es s) (i : Int) (hi : ¬ hasN s i = true) : Calls Try.prog 17 #[.pointer (some ⟨g, 0, none⟩), .int .i64 i] w (GivesDl B g t go A c s i w) := by
  have hB := below1 w (.cells #[.int .i64 0, .int .i64 0, .int .i64 0, .int .i64 0, .int .i64 0, .int .i64 0, .slice none 0 0] 34)
  have HH := Lib.hid (nt_has g A s.1.length c t i _ (h.box.al (.cells #[.int .i64 0, .int .i64 0, .int .i64 0, .int .i64 0, .int .i64 0, .int .i64 0, .slice none 0 0] 34)))
  have hd : decide (0 ≤ i ∧ i < (s.1.length : Int)) = false := by unfold hasN at hi; simpa using hi
  have HE : RowKit.Hid (GivesDl B g t go A c s i w (.returned (.tuple #[.agg #[.int .i64 0, .int .i64 0, .int .i64 0, .int .i64 0, .int .i64 0, .int .i64 0, .slice none 0 0], .int .i64 1])) (w.alloc (.cells #[.int .i64 0, .int .i64 0, .int .i64 0, .int .i64 0, .int .i64 0, .int .i64 0, .slice none 0 0] 34))) := Lib.hid (by
    have ha : atR s i = (zeroF, [], 1) := by unfold atR; rw [if_neg hi]
    have hd : delivN s i = s := by unfold delivN; rw [if_neg hi]
    unfold GivesDl
    rw [ha, hd]
    exact ⟨none, 0, rfl, rds_nil _ _ _, fun a ha => (by cases ha), go, es, h.below hB, NtGo.below hB⟩)
  rw [hd] at HH
  clear h hi hd hB
  go_enter Try.func17, Try.ntmps17
  go_wp2_with (first
    | (go_at_call 29
       refine HH.out.mono ?_
       rintro e w1 ⟨rfl, rfl⟩))
  refine bodyPost_ret (v := .tuple #[.agg #[.int .i64 0, .int .i64 0, .int .i64 0, .int .i64 0, .int .i64 0, .int .i64 0, .slice none 0 0], .int .i64 1]) (by simp [results, Try.results17, go_sem]) rfl ?_
  first | exact HE.out | (trace_state; sorry)
set_option maxRecDepth 100000 in
set_option maxHeartbeats 1000000 in
theorem nt_deliv_yes {B : Nat} {g t : Nat} {go : Option Nat} {A : Option Addr} {c : Nat} {es : List Sl} {s : NtS} (w : World) (h : NtIn B w g t go A c es s) (hs : NtOk s) (i : Int) (hi : hasN s i = true) (hT : ∀ x ∈ s.2, x ≤ 1000000) (hok : okF (atN s i) = true) : Calls Try.prog 17 #[.pointer (some ⟨g, 0, none⟩), .int .i64 i] w (GivesDl B g t go A c s i w) := by
    have hB := below1 w (.cells #[.int .i64 0, .int .i64 0, .int .i64 0, .int .i64 0, .int .i64 0, .int .i64 0, .slice none 0 0] 34)
    have hO : Whole (w.alloc (.cells #[.int .i64 0, .int .i64 0, .int .i64 0, .int .i64 0, .int .i64 0, .int .i64 0, .slice none 0 0] 34)) w.heap.size 34 [.int .i64 0, .int .i64 0, .int .i64 0, .int .i64 0, .int .i64 0, .int .i64 0, .slice none 0 0] := Whole.new_ _ _ _
    have hN1 := h.below hB
    have HH := Lib.hid (nt_has g A s.1.length c t i _ (h.box.al (.cells #[.int .i64 0, .int .i64 0, .int .i64 0, .int .i64 0, .int .i64 0, .int .i64 0, .slice none 0 0] 34)))
    have hd : decide (0 ≤ i ∧ i < (s.1.length : Int)) = true := hi
    have HA := Lib.hid (nt_at _ hN1 hs i)
    have hat : atR s i = takeR (atN s i) := by unfold atR; rw [if_pos hi]
    obtain ⟨f, gf⟩ : ∃ z, (takeR (atN s i)).1 = z := ⟨_, rfl⟩
    obtain ⟨M, gM⟩ : ∃ z, (takeR (atN s i)).2.1 = z := ⟨_, rfl⟩
    have ge : (takeR (atN s i)).2.2 = 0 := by unfold takeR; rw [hok]; rfl
    have HR : RowKit.Hid (atR s i = (f, M, 0)) := Lib.hid (by rw [hat, ← gf, ← gM, ← ge])
    have HD : RowKit.Hid (delivN s i = goneN s i 2) := Lib.hid (by unfold delivN; rw [if_pos hi, hok]; rfl)
    have HLT : RowKit.Hid (∀ b, NtT g t go (wayB A) b → b < w.heap.size) := Lib.hid (fun b hb => (h.lt b hb).2)
    have HO := Lib.hid hO
    have HB := Lib.hid hB
    have HN1 := Lib.hid hN1
    have Hs := Lib.hid hs
    have Hi := Lib.hid hi
    have HTs := Lib.hid hT
    clear h hs hi hT hok hB hO hN1 hat gf gM ge
    go_enter Try.func17, Try.ntmps17
    go_upto_region 1 with fail
    obtain ⟨W1, gW1⟩ : ∃ x, w.alloc (.cells #[.int .i64 0, .int .i64 0, .int .i64 0, .int .i64 0, .int .i64 0, .int .i64 0, .slice none 0 0] 34) = x := ⟨_, rfl⟩
    obtain ⟨g0, gg0⟩ : ∃ x, w.heap.size = x := ⟨_, rfl⟩
    have HG0 : RowKit.Hid (w.heap.size = g0) := Lib.hid gg0
    rw [gW1] at HO HB HH HA HN1 ⊢
    rw [gg0] at HO HLT ⊢
    clear gW1 gg0
    rw [hd] at HH
    go_wp2_with fail
    refine HH.out.mono ?_
    rintro e1 w1 ⟨rfl, rfl⟩
    go_wp2_with fail
    refine HA.out.mono ?_
    rintro e1 w2 ⟨A2, c2, rfl, hr2, hn2, hb2⟩
    rw [HR.out] at hr2 hn2 ⊢
    have HR2 := Lib.hid hr2
    have HN2 := Lib.hid hn2
    have HB2 := Lib.hid hb2
    have HO2 := Lib.hid (HO.out.below hb2)
    have HI2 := Lib.hid (HN1.out.below hb2)
    clear hr2 hb2 hn2 HH hd HA
    rename_i hK
    refine hK _ _ ?_
    refine wl_read (v := ?_) (some 13) rfl (by rfl) ?_ ?_
    rotate_left
    · go_simp; (try with_reducible rfl)
    simp only [Act.put, List.setIfInBounds_toArray, List.set_cons_zero, List.set_cons_succ]
    refine wl_read (v := .agg (frCells f A2 M.length c2).toArray) (some 17) rfl (by rfl) ?_ ?_
    · go_simp; (try rfl)
    simp only [Act.put, List.setIfInBounds_toArray, List.set_cons_zero, List.set_cons_succ]
    refine wl_read (v := ?_) (some 18) rfl (by rfl) ?_ ?_
    rotate_left
    · go_simp; (try with_reducible rfl)
    simp only [Act.put, List.setIfInBounds_toArray, List.set_cons_zero, List.set_cons_succ]
    refine wl_new 6 rfl rfl rfl 34 (.tmp 17) rfl rfl #[.int .i64 0, .int .i64 0, .int .i64 0, .int .i64 0, .int .i64 0, .int .i64 0, .slice none 0 0] ?_ (frCells f A2 M.length c2).toArray (by simp) rfl (by kernel_rfl) rfl (by simp [frCells, Value.oneCell']) ?_
    · go_simp; (try with_reducible rfl)
    simp only [Act.put, List.setIfInBounds_toArray, List.set_cons_zero, List.set_cons_succ]
    have HY3 : RowKit.Hid (Whole (w2.alloc (.cells (frCells f A2 M.length c2).toArray 34)) w2.heap.size 34 (frCells f A2 M.length c2)) := Lib.hid (Whole.new_ _ _ _)
    have HG5 : RowKit.Hid (g0 < w2.heap.size) := Lib.hid HO2.out.lt
    have HO3 := Lib.hid (HO2.out.al (.cells (frCells f A2 M.length c2).toArray 34))
    have HR3 := Lib.hid (HR2.out.al (.cells (frCells f A2 M.length c2).toArray 34))
    have HI3 := Lib.hid (HI2.out.below (below1 w2 (.cells (frCells f A2 M.length c2).toArray 34)))
    have HB3 : RowKit.Hid (Below w.heap.size w (w2.alloc (.cells (frCells f A2 M.length c2).toArray 34))) := Lib.hid (bel_al (HB.out.trans (HB2.out.mono HB.out.size)) _)
    have HG1 : RowKit.Hid (g0 < w1.heap.size) := Lib.hid HO.out.lt
    obtain ⟨w3, gw3⟩ : ∃ z, w2.alloc (.cells (frCells f A2 M.length c2).toArray 34) = z := ⟨_, rfl⟩
    obtain ⟨b5, gb5⟩ : ∃ z, w2.heap.size = z := ⟨_, rfl⟩
    rw [gw3] at HY3 HO3 HR3 HI3 HB3 ⊢
    rw [gb5] at HY3 HG5 ⊢
    clear gw3 gb5 HB2 HO2 HI2 HR2 hK HO HB HN1
    have HT := Lib.hid (nt_take w3 HI3.out Hs.out i Hi.out 2 (by decide) HTs.out)
    go_wp2_with fail
    refine HT.out.mono ?_
    rintro e1 w5 ⟨rfl, go', es', hI5, hG5⟩
    have HI5 := Lib.hid hI5
    have HO5 := Lib.hid (hG5.k.whole HO3.out (fun q => by have := HLT.out _ q; omega))
    have HY5 := Lib.hid (hG5.k.whole HY3.out (fun q => by have := HLT.out _ q; have := HG5.out; omega))
    have HR5 := Lib.hid (HR3.out.kept_ne hG5.k (fun a ha hp q => by have := HLT.out _ q; have := HN2.out a ha hp; have := HG1.out; omega))
    have HGo := Lib.hid ((NtGo.below HB3.out).trans hG5)
    clear hI5 hG5 HT HO3 HY3 HR3 HI3 HB3
    go_upto_region 8 with fail
    refine wp_region_lit ?_
    refine wl_load (some 29) rfl (by rfl) 34 (.tmp 6) rfl b5 rfl 34 (frCells f A2 M.length c2) _ HY5.out Try.underlying34 rfl (by kernel_rfl) ?_
    simp only [Act.put, List.setIfInBounds_toArray, List.set_cons_zero, List.set_cons_succ]
    refine wpList_store_row rfl 34 (.tmp 4) (.tmp 29) rfl g0 (frCells f A2 M.length c2).toArray rfl rfl 34 #[.int .i64 0, .int .i64 0, .int .i64 0, .int .i64 0, .int .i64 0, .int .i64 0, .slice none 0 0] HO5.out (by kernel_rfl) rfl (by simp [frCells, Value.oneCell']) ?_
    have HO6 : RowKit.Hid (Whole (w5.setRow g0 (frCells f A2 M.length c2).toArray) g0 34 (frCells f A2 M.length c2)) := Lib.hid (Whole.row HO5.out (frCells f A2 M.length c2))
    have hk6 := kept_row (S := fun i => i = g0) (w := w5) rfl (frCells f A2 M.length c2).toArray
    have HI6 := Lib.hid (HI5.out.keep hk6 (fun b hb q => HI5.out.noFrame hb ((show b = g0 from q) ▸ HO5.out)) (fun b q => by rw [show b = g0 from q]; exact nob_whole HO5.out (by decide)))
    have HGo6 : RowKit.Hid (NtGo w (w5.setRow g0 (frCells f A2 M.length c2).toArray) (NtT g t go (wayB A)) (NtT g t go' (wayB A))) := Lib.hid ⟨⟨HGo.out.k.os, HGo.out.k.tape, HGo.out.k.output, by rw [setRow_size]; exact HGo.out.k.size, fun b hb hn => (setRow_other w5 g0 b _ (fun e => by have := HG0.out; omega)).trans (HGo.out.k.block b hb hn)⟩, HGo.out.n⟩
    have HR6 : RowKit.Hid (RdS (w5.setRow g0 (frCells f A2 M.length c2).toArray) (w5.setRow g0 (frCells f A2 M.length c2).toArray).heap.size 1 A2 M.length c2 (rowsV f8 M)) := Lib.hid (HR5.out.row_far (fun a ha hp e => by have h1 := HN2.out a ha hp; have h2 := HG1.out; have h3 : a.block = g0 := Option.some.inj e; omega) _)
    go_wp2
    refine ret_whole2 rfl g0 rfl rfl HO6.out Try.underlying34 rfl (by kernel_rfl) rfl ?_
    unfold GivesDl
    rw [HR.out]
    exact ⟨A2, c2, rfl, HR6.out, fun a ha hp => (by have h1 := HN2.out a ha hp; have := HG1.out; have := HG0.out; omega), go', es', by rw [HD.out]; exact HI6.out, HGo6.out⟩
set_option maxRecDepth 100000 in
set_option maxHeartbeats 1000000 in
theorem nt_deliv_bad {B : Nat} {g t : Nat} {go : Option Nat} {A : Option Addr} {c : Nat} {es : List Sl} {s : NtS} (w : World) (h : NtIn B w g t go A c es s) (hs : NtOk s) (i : Int) (hi : hasN s i = true) (hT : ∀ x ∈ s.2, x ≤ 1000000) (hok : okF (atN s i) = false) : Calls Try.prog 17 #[.pointer (some ⟨g, 0, none⟩), .int .i64 i] w (GivesDl B g t go A c s i w) := by
    have hB := below1 w (.cells #[.int .i64 0, .int .i64 0, .int .i64 0, .int .i64 0, .int .i64 0, .int .i64 0, .slice none 0 0] 34)
    have hO : Whole (w.alloc (.cells #[.int .i64 0, .int .i64 0, .int .i64 0, .int .i64 0, .int .i64 0, .int .i64 0, .slice none 0 0] 34)) w.heap.size 34 [.int .i64 0, .int .i64 0, .int .i64 0, .int .i64 0, .int .i64 0, .int .i64 0, .slice none 0 0] := Whole.new_ _ _ _
    have hN1 := h.below hB
    have HH := Lib.hid (nt_has g A s.1.length c t i _ (h.box.al (.cells #[.int .i64 0, .int .i64 0, .int .i64 0, .int .i64 0, .int .i64 0, .int .i64 0, .slice none 0 0] 34)))
    have hd : decide (0 ≤ i ∧ i < (s.1.length : Int)) = true := hi
    have HA := Lib.hid (nt_at _ hN1 hs i)
    have hat : atR s i = takeR (atN s i) := by unfold atR; rw [if_pos hi]
    obtain ⟨f, gf⟩ : ∃ z, (takeR (atN s i)).1 = z := ⟨_, rfl⟩
    obtain ⟨M, gM⟩ : ∃ z, (takeR (atN s i)).2.1 = z := ⟨_, rfl⟩
    have ge : (takeR (atN s i)).2.2 = 2 := by unfold takeR; rw [hok]; rfl
    have HZ : RowKit.Hid (f = zeroF ∧ M = []) := Lib.hid (by rw [takeR, if_neg (by rw [hok]; decide)] at gf gM; exact ⟨gf.symm, gM.symm⟩)
    have HR : RowKit.Hid (atR s i = (f, M, 2)) := Lib.hid (by rw [hat, ← gf, ← gM, ← ge])
    have HD : RowKit.Hid (delivN s i = goneN s i 3) := Lib.hid (by unfold delivN; rw [if_pos hi, hok]; rfl)
    have HLT : RowKit.Hid (∀ b, NtT g t go (wayB A) b → b < w.heap.size) := Lib.hid (fun b hb => (h.lt b hb).2)
    have HO := Lib.hid hO
    have HB := Lib.hid hB
    have HN1 := Lib.hid hN1
    have Hs := Lib.hid hs
    have Hi := Lib.hid hi
    have HTs := Lib.hid hT
    clear h hs hi hT hok hB hO hN1 hat gf gM ge
    go_enter Try.func17, Try.ntmps17
    go_upto_region 1 with fail
    obtain ⟨W1, gW1⟩ : ∃ x, w.alloc (.cells #[.int .i64 0, .int .i64 0, .int .i64 0, .int .i64 0, .int .i64 0, .int .i64 0, .slice none 0 0] 34) = x := ⟨_, rfl⟩
    obtain ⟨g0, gg0⟩ : ∃ x, w.heap.size = x := ⟨_, rfl⟩
    have HG0 : RowKit.Hid (w.heap.size = g0) := Lib.hid gg0
    rw [gW1] at HO HB HH HA HN1 ⊢
    rw [gg0] at HO HLT ⊢
    clear gW1 gg0
    rw [hd] at HH
    go_wp2_with fail
    refine HH.out.mono ?_
    rintro e1 w1 ⟨rfl, rfl⟩
    go_wp2_with fail
    refine HA.out.mono ?_
    rintro e1 w2 ⟨A2, c2, rfl, hr2, hn2, hb2⟩
    rw [HR.out] at hr2 hn2 ⊢
    have HR2 := Lib.hid hr2
    have HN2 := Lib.hid hn2
    have HB2 := Lib.hid hb2
    have HO2 := Lib.hid (HO.out.below hb2)
    have HI2 := Lib.hid (HN1.out.below hb2)
    clear hr2 hb2 hn2 HH hd HA
    rename_i hK
    refine hK _ _ ?_
    refine wl_read (v := ?_) (some 13) rfl (by rfl) ?_ ?_
    rotate_left
    · go_simp; (try with_reducible rfl)
    simp only [Act.put, List.setIfInBounds_toArray, List.set_cons_zero, List.set_cons_succ]
    refine wl_read (v := .agg (frCells f A2 M.length c2).toArray) (some 17) rfl (by rfl) ?_ ?_
    · go_simp; (try rfl)
    simp only [Act.put, List.setIfInBounds_toArray, List.set_cons_zero, List.set_cons_succ]
    refine wl_read (v := ?_) (some 18) rfl (by rfl) ?_ ?_
    rotate_left
    · go_simp; (try with_reducible rfl)
    simp only [Act.put, List.setIfInBounds_toArray, List.set_cons_zero, List.set_cons_succ]
    refine wl_new 6 rfl rfl rfl 34 (.tmp 17) rfl rfl #[.int .i64 0, .int .i64 0, .int .i64 0, .int .i64 0, .int .i64 0, .int .i64 0, .slice none 0 0] ?_ (frCells f A2 M.length c2).toArray (by simp) rfl (by kernel_rfl) rfl (by simp [frCells, Value.oneCell']) ?_
    · go_simp; (try with_reducible rfl)
    simp only [Act.put, List.setIfInBounds_toArray, List.set_cons_zero, List.set_cons_succ]
    have HY3 : RowKit.Hid (Whole (w2.alloc (.cells (frCells f A2 M.length c2).toArray 34)) w2.heap.size 34 (frCells f A2 M.length c2)) := Lib.hid (Whole.new_ _ _ _)
    have HG5 : RowKit.Hid (g0 < w2.heap.size) := Lib.hid HO2.out.lt
    have HO3 := Lib.hid (HO2.out.al (.cells (frCells f A2 M.length c2).toArray 34))
    have HR3 := Lib.hid (HR2.out.al (.cells (frCells f A2 M.length c2).toArray 34))
    have HI3 := Lib.hid (HI2.out.below (below1 w2 (.cells (frCells f A2 M.length c2).toArray 34)))
    have HB3 : RowKit.Hid (Below w.heap.size w (w2.alloc (.cells (frCells f A2 M.length c2).toArray 34))) := Lib.hid (bel_al (HB.out.trans (HB2.out.mono HB.out.size)) _)
    have HG1 : RowKit.Hid (g0 < w1.heap.size) := Lib.hid HO.out.lt
    obtain ⟨w3, gw3⟩ : ∃ z, w2.alloc (.cells (frCells f A2 M.length c2).toArray 34) = z := ⟨_, rfl⟩
    obtain ⟨b5, gb5⟩ : ∃ z, w2.heap.size = z := ⟨_, rfl⟩
    rw [gw3] at HY3 HO3 HR3 HI3 HB3 ⊢
    rw [gb5] at HY3 HG5 ⊢
    clear gw3 gb5 HB2 HO2 HI2 HR2 hK HO HB HN1
    have HT := Lib.hid (nt_take w3 HI3.out Hs.out i Hi.out 3 (by decide) HTs.out)
    go_wp2_with fail
    refine HT.out.mono ?_
    rintro e1 w5 ⟨rfl, go', es', hI5, hG5⟩
    have HI5 := Lib.hid hI5
    have HO5 := Lib.hid (hG5.k.whole HO3.out (fun q => by have := HLT.out _ q; omega))
    have HY5 := Lib.hid (hG5.k.whole HY3.out (fun q => by have := HLT.out _ q; have := HG5.out; omega))
    have HR5 := Lib.hid (HR3.out.kept_ne hG5.k (fun a ha hp q => by have := HLT.out _ q; have := HN2.out a ha hp; have := HG1.out; omega))
    have HGo := Lib.hid ((NtGo.below HB3.out).trans hG5)
    clear hI5 hG5 HT HO3 HY3 HR3 HI3 HB3
    obtain ⟨rfl, rfl⟩ := HZ.out
    go_upto_region 6 with fail
    refine wp_region_lit ?_
    refine wl_read (v := .agg #[.int .i64 0, .int .i64 0, .int .i64 0, .int .i64 0, .int .i64 0, .int .i64 0, .slice none 0 0]) (some 24) rfl (by rfl) ?_ ?_
    · go_simp; (try with_reducible rfl)
    simp only [Act.put, List.setIfInBounds_toArray, List.set_cons_zero, List.set_cons_succ]
    refine wl_read (v := ?_) (some 25) rfl (by rfl) ?_ ?_
    rotate_left
    · go_simp; (try with_reducible rfl)
    simp only [Act.put, List.setIfInBounds_toArray, List.set_cons_zero, List.set_cons_succ]
    refine wpList_store_row rfl 34 (.tmp 4) (.tmp 24) rfl g0 (frCells zeroF none 0 0).toArray rfl rfl 34 #[.int .i64 0, .int .i64 0, .int .i64 0, .int .i64 0, .int .i64 0, .int .i64 0, .slice none 0 0] HO5.out (by kernel_rfl) rfl (by simp [frCells, Value.oneCell']) ?_
    have HO6 : RowKit.Hid (Whole (w5.setRow g0 (frCells zeroF none 0 0).toArray) g0 34 (frCells zeroF none 0 0)) := Lib.hid (Whole.row HO5.out (frCells zeroF none 0 0))
    have hk6 := kept_row (S := fun i => i = g0) (w := w5) rfl (frCells zeroF none 0 0).toArray
    have HI6 := Lib.hid (HI5.out.keep hk6 (fun b hb q => HI5.out.noFrame hb ((show b = g0 from q) ▸ HO5.out)) (fun b q => by rw [show b = g0 from q]; exact nob_whole HO5.out (by decide)))
    have HGo6 : RowKit.Hid (NtGo w (w5.setRow g0 (frCells zeroF none 0 0).toArray) (NtT g t go (wayB A)) (NtT g t go' (wayB A))) := Lib.hid ⟨⟨HGo.out.k.os, HGo.out.k.tape, HGo.out.k.output, by rw [setRow_size]; exact HGo.out.k.size, fun b hb hn => (setRow_other w5 g0 b _ (fun e => by have := HG0.out; omega)).trans (HGo.out.k.block b hb hn)⟩, HGo.out.n⟩
    go_wp2
    refine ret_whole2 rfl g0 rfl rfl HO6.out Try.underlying34 rfl (by kernel_rfl) rfl ?_
    unfold GivesDl
    rw [HR.out]
    exact ⟨none, 0, rfl, rds_nil _ _ _, fun a ha => (by cases ha), go', es', by rw [HD.out]; exact HI6.out, HGo6.out⟩
end Go.Proofs.Ytibbibpfnpjjdaa

/- The document's net: At, Deliver, Drop. -/
namespace Go.Proofs.Ytibbibpfnpjjdaa
open Go.RowKit
set_option linter.unusedSimpArgs false
set_option linter.unusedVariables false

set_option maxRecDepth 100000 in
set_option maxHeartbeats 4000000 in
theorem yt_at {B : Nat} {y : Nat} {A : Option Addr} {c : Nat} {es : List Sl} {s : NtS} (w : World) (h : YtIn B w y A c es s) (hs : NtOk s) (i : Int) : Calls Try.prog 35 #[.pointer (some ⟨y, 0, none⟩), .int .i64 i] w (GivesAt w s i) := by
  have hbx := h.box.al (.cells #[.int .i64 0, .int .i64 0, .int .i64 0, .int .i64 0, .int .i64 0, .int .i64 0, .slice none 0 0] 34)
  by_cases hi : hasN s i = true
  · obtain ⟨m, rfl⟩ : ∃ m : Nat, i = (m : Int) := ⟨i.toNat, by have := (of_decide_eq_true hi).1; omega⟩
    have hm : m < s.1.length := by have := (of_decide_eq_true hi).2; omega
    obtain ⟨L, hL⟩ : ∃ L, s.1[m]? = some L := ⟨_, List.getElem?_eq_getElem hm⟩
    obtain ⟨e, he1, he2⟩ := h.each m L hL
    have haL : atN s (m : Int) = L := by unfold atN; rw [Int.toNat_natCast, List.getD_eq_getElem?_getD, hL]; rfl
    have hbL := hs.bytes L (List.mem_of_getElem? hL)
    obtain ⟨b, o, rfl, hlt, hpl⟩ := h.row.place slc_len (by decide) (by omega)
    have k1 := hpl m e he1 0 (.slice e.1 e.2.1 e.2.2) rfl
    rw [Addr.add_lit] at k1
    simp only [Nat.add_zero, Nat.mul_one] at k1
    have hB := below1 w (.cells #[.int .i64 0, .int .i64 0, .int .i64 0, .int .i64 0, .int .i64 0, .int .i64 0, .slice none 0 0] 34)
    have k2 := (hB.cell (p := ⟨b, o + m, none⟩) hlt).trans k1
    have l0 := hbx.cell (i := 0) (v := .slice (some ⟨b, o, none⟩) s.1.length c) rfl
    have hO : Whole (w.alloc (.cells #[.int .i64 0, .int .i64 0, .int .i64 0, .int .i64 0, .int .i64 0, .int .i64 0, .slice none 0 0] 34)) w.heap.size 34 [.int .i64 0, .int .i64 0, .int .i64 0, .int .i64 0, .int .i64 0, .int .i64 0, .slice none 0 0] := Whole.new_ _ _ _
    have hr := (he2.below hB).rds
    have hT := rtake_any e.1 L.length e.2.2 L _ hr hbL.2 (by omega)
    have heL := he2.len
    rw [← heL] at hT
    have HT := Lib.hid hT
    have HO := Lib.hid hO
    have HB := Lib.hid hB
    have HR : RowKit.Hid (atR s (m : Int) = takeR L) := Lib.hid (by unfold atR; rw [if_pos hi, haL])
    obtain ⟨n, gn⟩ : ∃ n, s.1.length = n := ⟨_, rfl⟩
    rw [gn] at l0 hm
    have hmI : (m : Int) < (n : Int) := by omega
    have hq1 : decide ((m : Int) < 0) = false := decide_eq_false (by omega)
    have hq2 : decide ((n : Int) ≤ (m : Int)) = false := decide_eq_false (by omega)
    clear hbx h hs hi hL he1 he2 haL hbL hlt hpl k1 hr hT hO hB gn heL
    go_enter Try.func35, Try.ntmps35
    go_upto_region 1 with fail
    obtain ⟨W1, gW1⟩ : ∃ x, w.alloc (.cells #[.int .i64 0, .int .i64 0, .int .i64 0, .int .i64 0, .int .i64 0, .int .i64 0, .slice none 0 0] 34) = x := ⟨_, rfl⟩
    obtain ⟨g0, gg0⟩ : ∃ x, w.heap.size = x := ⟨_, rfl⟩
    have HG0 : RowKit.Hid (w.heap.size = g0) := Lib.hid gg0
    rw [gW1] at HO HB HT l0 k2 ⊢
    rw [gg0] at HO ⊢
    clear gW1 gg0
    go_upto_region 3 with fail
    clear hq1 hq2
    go_wp2_with fail
    refine HT.out.mono ?_
    rintro e1 w2 ⟨A2, c2, rfl, hr2, hn2, hb2⟩
    have HR2 := Lib.hid hr2
    have HN2 := Lib.hid hn2
    have HB2 := Lib.hid hb2
    have HO2 := Lib.hid (HO.out.below hb2)
    clear hr2 hb2 hn2 k2 l0 HT
    obtain ⟨f, gf⟩ : ∃ z, (takeR L).1 = z := ⟨_, rfl⟩
    obtain ⟨M, gM⟩ : ∃ z, (takeR L).2.1 = z := ⟨_, rfl⟩
    obtain ⟨er, ge⟩ : ∃ z, (takeR L).2.2 = z := ⟨_, rfl⟩
    rw [gf, gM, ge]
    have Gf := Lib.hid gf
    have GM := Lib.hid gM
    have Ge := Lib.hid ge
    rw [gM] at HR2 HN2
    clear gf gM ge
    rename_i hK
    refine hK _ _ ?_
    refine wl_read (v := .agg (frCells f A2 M.length c2).toArray) (some 26) rfl (by rfl) ?_ ?_
    · go_simp; (try rfl)
    simp only [Act.put, List.setIfInBounds_toArray, List.set_cons_zero, List.set_cons_succ]
    refine wl_read (v := ?_) (some 27) rfl (by rfl) ?_ ?_
    rotate_left
    · go_simp; (try with_reducible rfl)
    simp only [Act.put, List.setIfInBounds_toArray, List.set_cons_zero, List.set_cons_succ]
    refine wpList_store_row rfl 34 (.tmp 4) (.tmp 26) rfl g0 (frCells f A2 M.length c2).toArray rfl rfl 34 #[.int .i64 0, .int .i64 0, .int .i64 0, .int .i64 0, .int .i64 0, .int .i64 0, .slice none 0 0] HO2.out (by kernel_rfl) rfl (by simp [frCells, Value.oneCell']) ?_
    have HO3 : RowKit.Hid (Whole (w2.setRow g0 (frCells f A2 M.length c2).toArray) g0 34 (frCells f A2 M.length c2)) := Lib.hid (Whole.row HO2.out (frCells f A2 M.length c2))
    have HB3 : RowKit.Hid (Below w.heap.size w w2) := Lib.hid (HB.out.trans (HB2.out.mono HB.out.size))
    have HB4 : RowKit.Hid (Below w.heap.size w (w2.setRow g0 (frCells f A2 M.length c2).toArray)) := Lib.hid (below_row HB3.out (Nat.le_of_eq HG0.out) _)
    have HR3 : RowKit.Hid (RdS (w2.setRow g0 (frCells f A2 M.length c2).toArray) (w2.setRow g0 (frCells f A2 M.length c2).toArray).heap.size 1 A2 M.length c2 (rowsV f8 M)) := Lib.hid (HR2.out.row_far (fun a ha hp e => by have h1 := HN2.out a ha hp; have h2 := HO.out.lt; have h3 : a.block = g0 := Option.some.inj e; omega) _)
    clear hK
    go_wp2
    refine ret_whole2 rfl g0 rfl rfl HO3.out Try.underlying34 rfl (by kernel_rfl) rfl ?_
    unfold GivesAt
    rw [HR.out, Gf.out, GM.out, Ge.out]
    exact ⟨A2, c2, rfl, HR3.out, fun a ha hp => by have h1 := HN2.out a ha hp; have := HB.out.size; omega, HB4.out⟩
  · have l0 := hbx.cell (i := 0) (v := .slice A s.1.length c) rfl
    have HE := Lib.hid (fun w' (hb : Below w.heap.size w w') => gives_at_no (i := i) hi hb)
    have HB := Lib.hid (below1 w (.cells #[.int .i64 0, .int .i64 0, .int .i64 0, .int .i64 0, .int .i64 0, .int .i64 0, .slice none 0 0] 34))
    obtain ⟨n, gn⟩ : ∃ n, s.1.length = n := ⟨_, rfl⟩
    rw [gn] at l0
    by_cases h0 : i < 0
    · have hq1 : decide (i < 0) = true := decide_eq_true h0
      clear hbx h hs hi gn l0
      go_enter Try.func35, Try.ntmps35
      go_wp2
      refine bodyPost_ret (v := .tuple #[.agg #[.int .i64 0, .int .i64 0, .int .i64 0, .int .i64 0, .int .i64 0, .int .i64 0, .slice none 0 0], .int .i64 1]) (by simp [results, Try.results35, go_sem]) rfl ?_
      exact HE.out _ HB.out
    · have hq1 : decide (i < 0) = false := decide_eq_false h0
      have hq2 : decide ((n : Int) ≤ i) = true := decide_eq_true (by
        unfold hasN at hi
        have := of_decide_eq_false (by simpa using hi : decide (0 ≤ i ∧ i < (s.1.length : Int)) = false)
        omega)
      clear hbx h hs hi gn h0
      go_enter Try.func35, Try.ntmps35
      go_wp2
      refine bodyPost_ret (v := .tuple #[.agg #[.int .i64 0, .int .i64 0, .int .i64 0, .int .i64 0, .int .i64 0, .int .i64 0, .slice none 0 0], .int .i64 1]) (by simp [results, Try.results35, go_sem]) rfl ?_
      exact HE.out _ HB.out
def YtSt (B y : Nat) (A : Option Addr) (w : World) (s : NtS) (w' : World) : Prop := ∃ A' c' es', YtIn B w' y A' c' es' s ∧ NtGo w w' (YtT y A) (YtT y A')
theorem getD_small {T : List Int} (h : ∀ x ∈ T, 0 ≤ x ∧ x ≤ 1000000) (k : Nat) : 0 ≤ T.getD k 0 ∧ T.getD k 0 ≤ 1000000 := by
  rw [List.getD_eq_getElem?_getD]
  rcases hk : T[k]? with _ | x
  · exact ⟨by decide, by decide⟩
  · exact h x (List.mem_of_getElem? hk)
theorem YtIn.noFrame {B : Nat} {w : World} {y : Nat} {A : Option Addr} {c : Nat} {es : List Sl} {s : NtS} (h : YtIn B w y A c es s) {b : Nat} (hb : YtT y A b) {cs : List Value} (hw : Whole w b 34 cs) : False := by
  rcases hb with rfl | hb
  · exact h.box.ne_ hw (by decide) rfl
  · obtain ⟨c2, h3⟩ := own_whole h.own hb
    exact h3.ne_ hw (by decide) rfl
def GivesYd (B y : Nat) (A : Option Addr) (s : NtS) (i : Int) (w : World) (e : Ending) (w' : World) : Prop :=
  ∃ A1 c1, e = .returned (.tuple #[.agg (frCells (atR s i).1 A1 (atR s i).2.1.length c1).toArray, .int .i64 (atR s i).2.2]) ∧ RdS w' w'.heap.size 1 A1 (atR s i).2.1.length c1 (rowsV f8 (atR s i).2.1) ∧ (∀ a, A1 = some a → 0 < (atR s i).2.1.length → w.heap.size ≤ a.block) ∧ ∃ A' c' es', YtIn B w' y A' c' es' (delivN s i) ∧ NtGo w w' (YtT y A) (YtT y A')
set_option maxRecDepth 100000 in
set_option maxHeartbeats 4000000 in
theorem yt_drop {B : Nat} {y : Nat} {A : Option Addr} {c : Nat} {es : List Sl} {s : NtS} (w : World) (h : YtIn B w y A c es s) (hs : NtOk s) (i : Int) (hT : ∀ x ∈ s.2, 0 ≤ x ∧ x ≤ 1000000) : Calls Try.prog 32 #[.pointer (some ⟨y, 0, none⟩), .int .i64 i] w fun e w' => e = .returned (.int .i64 (hasE s i)) ∧ YtSt B y A w (dropN s i) w' := by
  have l0 := h.box.cell (i := 0) (v := .slice A s.1.length c) rfl
  obtain ⟨n, gn⟩ : ∃ n, s.1.length = n := ⟨_, rfl⟩
  by_cases hi : hasN s i = true
  · have HD : RowKit.Hid (dropN s i = goneN s i 4) := Lib.hid (by unfold dropN; rw [if_pos hi])
    have HE : RowKit.Hid (hasE s i = 0) := Lib.hid (by unfold hasE; rw [if_pos hi])
    have HGN := Lib.hid (yt_gone w h hs i hi)
    have hq1 : decide (i < 0) = false := decide_eq_false (by have := (of_decide_eq_true hi).1; omega)
    have hq2 : decide ((n : Int) ≤ i) = false := decide_eq_false (by have := (of_decide_eq_true hi).2; omega)
    have HS6 := Lib.hid hs.six
    have HTB : RowKit.Hid (∀ k, 0 ≤ s.2.getD k 0 ∧ s.2.getD k 0 ≤ 1000000) := Lib.hid (fun k => getD_small hT k)
    rw [gn] at l0
    clear gn h hs hT hi
    go_enter Try.func32, Try.ntmps32
    go_upto_region 3 with fail
    clear hq1 hq2 l0
    go_wp2_with fail
    refine HGN.out.mono ?_
    rintro e w1 ⟨rfl, A1, c1, es1, hY, hG⟩
    have HY1 := Lib.hid hY
    have HG1 := Lib.hid hG
    clear hY hG HGN
    go_upto_region 4 with fail
    obtain ⟨tk_, gtk_⟩ : ∃ z, s.2.getD 4 0 = z := ⟨_, rfl⟩
    have ldk_ : ∀ w', Kept Nil_ w1.drew w' → w'.cell? ⟨y, 5, none⟩ = some (.int .i64 tk_) := fun w' hk => hk.nil_cell (HY1.out.drew.box.cell (i := 1 + 4) (gtk_ ▸ yt_cell (by rw [HS6.out]; decide)))
    have Gtk_ := Lib.hid gtk_
    have hwk_ : IntKind.i64.wrap (tk_ + 1) = tk_ + 1 := by
      have h1 := HTB.out 4
      rw [gtk_] at h1
      exact IntWalk.i64_in _ (by omega)
    clear gtk_
    refine wp_region_tail (Nil_) [9] (by kernel_rfl) ?_
    apply wpT_next 0 (some 19) (by kernel_rfl)
    · simp only [List.getElem?_toArray, List.getElem?_cons_succ, List.getElem?_cons_zero]; exact rfl
    · rfl
    · kernel_rfl
    · kernel_rfl
    · kernel_rfl
    · exact fun _ _ _ _ h => h
    apply Exists.intro
    apply And.intro
    · apply yr_run; rfl; intro w' hw'; go_simp; (try with_reducible rfl)
    simp only [Act.put, List.setIfInBounds_toArray, List.set_cons_zero, List.set_cons_succ]
    apply wpT_next 1 (some 20) (by kernel_rfl)
    · simp only [List.getElem?_toArray, List.getElem?_cons_succ, List.getElem?_cons_zero]; exact rfl
    · rfl
    · kernel_rfl
    · kernel_rfl
    · kernel_rfl
    · exact fun _ _ _ _ h => h
    apply Exists.intro
    apply And.intro
    · apply yr_run; rfl; intro w' hw'; go_simp; (try with_reducible rfl)
    simp only [Act.put, List.setIfInBounds_toArray, List.set_cons_zero, List.set_cons_succ]
    apply wpT_next 2 (some 21) (by kernel_rfl)
    · simp only [List.getElem?_toArray, List.getElem?_cons_succ, List.getElem?_cons_zero]; exact rfl
    · rfl
    · kernel_rfl
    · kernel_rfl
    · kernel_rfl
    · exact fun _ _ _ _ h => h
    apply Exists.intro
    apply And.intro
    · apply yr_run; rfl; intro w' hw'; go_simp; (try with_reducible rfl)
    simp only [Act.put, List.setIfInBounds_toArray, List.set_cons_zero, List.set_cons_succ]
    apply wpT_next 3 (some 22) (by kernel_rfl)
    · simp only [List.getElem?_toArray, List.getElem?_cons_succ, List.getElem?_cons_zero]; exact rfl
    · rfl
    · kernel_rfl
    · kernel_rfl
    · kernel_rfl
    · exact fun _ _ _ _ h => h
    apply Exists.intro
    apply And.intro
    · apply yr_run; rfl; intro w' hw'; go_simp; (try with_reducible rfl)
    simp only [Act.put, List.setIfInBounds_toArray, List.set_cons_zero, List.set_cons_succ]
    apply wpT_next 4 (some 23) (by kernel_rfl)
    · simp only [List.getElem?_toArray, List.getElem?_cons_succ, List.getElem?_cons_zero]; exact rfl
    · rfl
    · kernel_rfl
    · kernel_rfl
    · kernel_rfl
    · exact fun _ _ _ _ h => h
    apply Exists.intro
    apply And.intro
    · apply yr_run; rfl; intro w' hw'; go_simp; (try with_reducible rfl)
    simp only [Act.put, List.setIfInBounds_toArray, List.set_cons_zero, List.set_cons_succ]
    apply wpT_next 5 (some 24) (by kernel_rfl)
    · simp only [List.getElem?_toArray, List.getElem?_cons_succ, List.getElem?_cons_zero]; exact rfl
    · rfl
    · kernel_rfl
    · kernel_rfl
    · kernel_rfl
    · exact fun _ _ _ _ h => h
    apply Exists.intro
    apply And.intro
    · apply yr_run; rfl; intro w' hw'; go_simp; (try with_reducible rfl)
    simp only [Act.put, List.setIfInBounds_toArray, List.set_cons_zero, List.set_cons_succ]
    apply wpT_run 6 (some 25)
    · simp only [List.getElem?_toArray, List.getElem?_cons_succ, List.getElem?_cons_zero]; exact rfl
    · rfl
    · kernel_rfl
    · rfl
    intro w' hw'
    apply Exists.intro
    apply Exists.intro
    apply And.intro
    · go_simp; first | done | exact ⟨rfl, rfl⟩ | exact rfl
    apply And.intro
    · exact Kept.refl _ _
    have hpd6 := hw'
    clear hw'
    simp only [Act.put, List.setIfInBounds_toArray, List.set_cons_zero, List.set_cons_succ]
    apply wpT_run 7 (some 26)
    · simp only [List.getElem?_toArray, List.getElem?_cons_succ, List.getElem?_cons_zero]; exact rfl
    · rfl
    · kernel_rfl
    · rfl
    intro w' hw'
    replace hw' := Ext.trans hpd6 hw'
    apply Exists.intro
    apply Exists.intro
    apply And.intro
    · go_simp; first | done | exact ⟨rfl, rfl⟩ | exact rfl
    apply And.intro
    · exact Kept.refl _ _
    have hpd7 := hw'
    clear hw'
    simp only [Act.put, List.setIfInBounds_toArray, List.set_cons_zero, List.set_cons_succ]
    apply wpT_next 8 (some 27) (by kernel_rfl)
    · simp only [List.getElem?_toArray, List.getElem?_cons_succ, List.getElem?_cons_zero]; exact rfl
    · rfl
    · kernel_rfl
    · kernel_rfl
    · kernel_rfl
    · exact fun _ _ _ _ h => h
    apply Exists.intro
    apply And.intro
    · apply yr_run; rfl; intro w' hw'; go_simp; (try with_reducible rfl)
    simp only [Act.put, List.setIfInBounds_toArray, List.set_cons_zero, List.set_cons_succ]
    apply wpT_last 9
    · simp only [List.getElem?_toArray, List.getElem?_cons_succ, List.getElem?_cons_zero]; exact rfl
    · rfl
    · kernel_rfl
    · rfl
    · decide
    intro w' hw'
    replace hw' := Ext.trans hpd7 hw'
    clear hpd7
    have hN := HY1.out.drew.below hw'
    have hcl := hN.box.cell (i := 1 + 4) (yt_cell (by rw [HS6.out]; decide))
    have hfr := hN.box.free (1 + 4)
    refine ⟨w'.setCell ⟨y, 5, none⟩ (.int .i64 (tk_ + 1)), ?_, ?_⟩
    · go_simp; first | done | exact rfl
    have HWk := Lib.hid (hN.bump 4 (tk_ + 1) (by rw [Gtk_.out]) rfl)
    have HGk := Lib.hid ((NtGo.below (S := YtT y A1) (Below.drew (Below.refl _ _))).trans ((NtGo.below hw').trans HWk.out.2))
    obtain ⟨W5, gW5⟩ : ∃ x, w'.setCell ⟨y, 5, none⟩ (.int .i64 (tk_ + 1)) = x := ⟨_, rfl⟩
    rw [show (⟨y, 1 + 4, none⟩ : Addr) = ⟨y, 5, none⟩ from rfl, gW5] at HWk HGk
    rw [gW5]
    clear hw' hN hcl hfr gW5
    try simp only [Act.put, List.setIfInBounds_toArray, List.set_cons_zero, List.set_cons_succ]
    refine wpT_done (by kernel_rfl) ?_ _
    intro W6 hw6
    have HY6 := Lib.hid (HWk.out.1.below hw6)
    have HG6 := Lib.hid (HGk.out.trans (NtGo.below hw6))
    clear hw6 HWk HGk ldk_ hwk_ Gtk_
    go_wp2
    go_ret
    refine ⟨by rw [HE.out]; rfl, A1, c1, es1, ?_, HG1.out.trans HG6.out⟩
    rw [HD.out]
    exact HY6.out
  · have HD : RowKit.Hid (dropN s i = s) := Lib.hid (by unfold dropN; rw [if_neg hi])
    have HE : RowKit.Hid (hasE s i = 1) := Lib.hid (by unfold hasE; rw [if_neg hi])
    have H := Lib.hid h
    rw [gn] at l0
    by_cases h0 : i < 0
    · have hq1 : decide (i < 0) = true := decide_eq_true h0
      clear h hs hi hT gn l0
      go_enter Try.func32, Try.ntmps32
      go_wp2
      go_ret
      refine ⟨by rw [HE.out]; rfl, A, c, es, ?_, NtGo.below (Below.refl _ _)⟩
      rw [HD.out]; exact H.out
    · have hq1 : decide (i < 0) = false := decide_eq_false h0
      have hq2 : decide ((n : Int) ≤ i) = true := decide_eq_true (by
        unfold hasN at hi
        have := of_decide_eq_false (by simpa using hi : decide (0 ≤ i ∧ i < (s.1.length : Int)) = false)
        omega)
      clear h hs hi hT gn h0
      go_enter Try.func32, Try.ntmps32
      go_wp2
      go_ret
      refine ⟨by rw [HE.out]; rfl, A, c, es, ?_, NtGo.below (Below.refl _ _)⟩
      rw [HD.out]; exact H.out
set_option maxRecDepth 100000 in
set_option maxHeartbeats 4000000 in
theorem yt_deliv_no {B : Nat} {y : Nat} {A : Option Addr} {c : Nat} {es : List Sl} {s : NtS} (w : World) (h : YtIn B w y A c es s) (hs : NtOk s) (i : Int) (hi : ¬ hasN s i = true) (hT : ∀ x ∈ s.2, 0 ≤ x ∧ x ≤ 1000000) : Calls Try.prog 31 #[.pointer (some ⟨y, 0, none⟩), .int .i64 i] w (GivesYd B y A s i w) := by
  have hB := below1 w (.cells #[.int .i64 0, .int .i64 0, .int .i64 0, .int .i64 0, .int .i64 0, .int .i64 0, .slice none 0 0] 34)
  have hO : Whole (w.alloc (.cells #[.int .i64 0, .int .i64 0, .int .i64 0, .int .i64 0, .int .i64 0, .int .i64 0, .slice none 0 0] 34)) w.heap.size 34 [.int .i64 0, .int .i64 0, .int .i64 0, .int .i64 0, .int .i64 0, .int .i64 0, .slice none 0 0] := Whole.new_ _ _ _
  have hN1 := h.below hB
  have HA := Lib.hid (yt_at _ hN1 hs i)
  have hat : atR s i = (zeroF, [], 1) := by unfold atR; rw [if_neg hi]
  obtain ⟨f, gf⟩ : ∃ z, zeroF = z := ⟨_, rfl⟩
  obtain ⟨M, gM⟩ : ∃ z, ([] : List Nat) = z := ⟨_, rfl⟩
  have HR : RowKit.Hid (atR s i = (f, M, 1)) := Lib.hid (by rw [hat, ← gf, ← gM])
  have HD : RowKit.Hid (delivN s i = s) := Lib.hid (by unfold delivN; rw [if_neg hi])
  have HLT : RowKit.Hid (∀ b, YtT y A b → b < w.heap.size) := Lib.hid (fun b hb => (h.lt b hb).2)
  have HS6 := Lib.hid hs.six
  have HTB : RowKit.Hid (∀ k, 0 ≤ s.2.getD k 0 ∧ s.2.getD k 0 ≤ 1000000) := Lib.hid (fun k => getD_small hT k)
  have HO := Lib.hid hO
  have HB := Lib.hid hB
  have HN1 := Lib.hid hN1
  have Hs := Lib.hid hs
  have Hi := Lib.hid hi
  clear h hs hi hT hB hO hN1 hat gf gM 
  go_enter Try.func31, Try.ntmps31
  go_upto_region 1 with fail
  obtain ⟨W1, gW1⟩ : ∃ x, w.alloc (.cells #[.int .i64 0, .int .i64 0, .int .i64 0, .int .i64 0, .int .i64 0, .int .i64 0, .slice none 0 0] 34) = x := ⟨_, rfl⟩
  obtain ⟨g0, gg0⟩ : ∃ x, w.heap.size = x := ⟨_, rfl⟩
  have HG0 : RowKit.Hid (w.heap.size = g0) := Lib.hid gg0
  rw [gW1] at HO HB HA HN1 ⊢
  rw [gg0] at HO HLT ⊢
  clear gW1 gg0
  go_wp2_with fail
  refine HA.out.mono ?_
  rintro e1 w2 ⟨A2, c2, rfl, hr2, hn2, hb2⟩
  rw [HR.out] at hr2 hn2 ⊢
  have HR2 := Lib.hid hr2
  have HN2 := Lib.hid hn2
  have HB2 := Lib.hid hb2
  have HO2 := Lib.hid (HO.out.below hb2)
  have HI2 := Lib.hid (HN1.out.below hb2)
  clear hr2 hb2 hn2 HA
  rename_i hK
  refine hK _ _ ?_
  refine wl_read (v := ?_) (some 8) rfl (by rfl) ?_ ?_
  rotate_left
  · go_simp; (try with_reducible rfl)
  simp only [Act.put, List.setIfInBounds_toArray, List.set_cons_zero, List.set_cons_succ]
  refine wl_read (v := .agg (frCells f A2 M.length c2).toArray) (some 12) rfl (by rfl) ?_ ?_
  · go_simp; (try rfl)
  simp only [Act.put, List.setIfInBounds_toArray, List.set_cons_zero, List.set_cons_succ]
  refine wl_read (v := ?_) (some 13) rfl (by rfl) ?_ ?_
  rotate_left
  · go_simp; (try with_reducible rfl)
  simp only [Act.put, List.setIfInBounds_toArray, List.set_cons_zero, List.set_cons_succ]
  refine wl_new 6 rfl rfl rfl 34 (.tmp 12) rfl rfl #[.int .i64 0, .int .i64 0, .int .i64 0, .int .i64 0, .int .i64 0, .int .i64 0, .slice none 0 0] ?_ (frCells f A2 M.length c2).toArray (by simp) rfl (by kernel_rfl) rfl (by simp [frCells, Value.oneCell']) ?_
  · go_simp; (try with_reducible rfl)
  simp only [Act.put, List.setIfInBounds_toArray, List.set_cons_zero, List.set_cons_succ]
  have HY3 : RowKit.Hid (Whole (w2.alloc (.cells (frCells f A2 M.length c2).toArray 34)) w2.heap.size 34 (frCells f A2 M.length c2)) := Lib.hid (Whole.new_ _ _ _)
  have HG5 : RowKit.Hid (g0 < w2.heap.size) := Lib.hid HO2.out.lt
  have HO3 := Lib.hid (HO2.out.al (.cells (frCells f A2 M.length c2).toArray 34))
  have HR3 := Lib.hid (HR2.out.al (.cells (frCells f A2 M.length c2).toArray 34))
  have HI3 := Lib.hid (HI2.out.below (below1 w2 (.cells (frCells f A2 M.length c2).toArray 34)))
  have HG1 : RowKit.Hid (g0 < W1.heap.size) := Lib.hid HO.out.lt
  have HB3 : RowKit.Hid (Below w.heap.size w (w2.alloc (.cells (frCells f A2 M.length c2).toArray 34))) := Lib.hid (bel_al (HB.out.trans (HB2.out.mono HB.out.size)) _)
  obtain ⟨w3, gw3⟩ : ∃ z, w2.alloc (.cells (frCells f A2 M.length c2).toArray 34) = z := ⟨_, rfl⟩
  obtain ⟨b5, gb5⟩ : ∃ z, w2.heap.size = z := ⟨_, rfl⟩
  rw [gw3] at HY3 HO3 HR3 HI3 HB3 ⊢
  rw [gb5] at HY3 HG5 ⊢
  clear gw3 gb5 HB2 HO2 HI2 HR2 hK HO HB HN1
  have HGo := Lib.hid (NtGo.below (S := YtT y A) HB3.out)
  obtain ⟨w5, gw5⟩ : ∃ z, w3 = z := ⟨_, rfl⟩
  obtain ⟨A5, gA5⟩ : ∃ z, A = z := ⟨_, rfl⟩
  obtain ⟨c5, gc5⟩ : ∃ z, c = z := ⟨_, rfl⟩
  obtain ⟨es5, ge5⟩ : ∃ z, es = z := ⟨_, rfl⟩
  subst gA5 gc5 ge5
  rw [gw5] at HGo HY3 HO3 HR3 HI3 ⊢
  have HY5 := HY3
  have HO5 := HO3
  have HR5 := HR3
  have HI5 := HI3
  clear gw5 HY3 HO3 HR3 HI3 HB3
  go_upto_region 3 with fail
  refine wp_region_lit ?_
  refine wl_load (some 16) rfl (by rfl) 34 (.tmp 6) rfl b5 rfl 34 (frCells f A2 M.length c2) _ HY5.out Try.underlying34 rfl (by kernel_rfl) ?_
  simp only [Act.put, List.setIfInBounds_toArray, List.set_cons_zero, List.set_cons_succ]
  refine wl_read (v := ?_) (some 17) rfl (by rfl) ?_ ?_
  rotate_left
  · go_simp; (try with_reducible rfl)
  simp only [Act.put, List.setIfInBounds_toArray, List.set_cons_zero, List.set_cons_succ]
  refine wpList_store_row rfl 34 (.tmp 4) (.tmp 16) rfl g0 (frCells f A2 M.length c2).toArray rfl rfl 34 #[.int .i64 0, .int .i64 0, .int .i64 0, .int .i64 0, .int .i64 0, .int .i64 0, .slice none 0 0] HO5.out (by kernel_rfl) rfl (by simp [frCells, Value.oneCell']) ?_
  have HO6 : RowKit.Hid (Whole (w5.setRow g0 (frCells f A2 M.length c2).toArray) g0 34 (frCells f A2 M.length c2)) := Lib.hid (Whole.row HO5.out (frCells f A2 M.length c2))
  have hk6 := kept_row (S := fun i => i = g0) (w := w5) rfl (frCells f A2 M.length c2).toArray
  have HI6 := Lib.hid (HI5.out.keep hk6 (fun b hb q => HI5.out.noFrame hb ((show b = g0 from q) ▸ HO5.out)) (fun b q => by rw [show b = g0 from q]; exact nob_whole HO5.out (by decide)))
  have HGo6 : RowKit.Hid (NtGo w (w5.setRow g0 (frCells f A2 M.length c2).toArray) (YtT y A) (YtT y A)) := Lib.hid ⟨⟨HGo.out.k.os, HGo.out.k.tape, HGo.out.k.output, by rw [setRow_size]; exact HGo.out.k.size, fun b hb hn => (setRow_other w5 g0 b _ (fun e => by have := HG0.out; omega)).trans (HGo.out.k.block b hb hn)⟩, HGo.out.n⟩
  have HR6 : RowKit.Hid (RdS (w5.setRow g0 (frCells f A2 M.length c2).toArray) (w5.setRow g0 (frCells f A2 M.length c2).toArray).heap.size 1 A2 M.length c2 (rowsV f8 M)) := Lib.hid (HR5.out.row_far (fun a ha hp e => by have h1 := HN2.out a ha hp; have h2 := HG1.out; have h3 : a.block = g0 := Option.some.inj e; omega) _)
  go_wp2
  refine ret_whole2 rfl g0 rfl rfl HO6.out Try.underlying34 rfl (by kernel_rfl) rfl ?_
  unfold GivesYd
  rw [HR.out]
  exact ⟨A2, c2, rfl, HR6.out, fun a ha hp => (by have h1 := HN2.out a ha hp; have := HG1.out; have := HG0.out; omega), A, c, es, by rw [HD.out]; exact HI6.out, HGo6.out⟩
set_option maxRecDepth 100000 in
set_option maxHeartbeats 4000000 in
theorem yt_deliv_ok {B : Nat} {y : Nat} {A : Option Addr} {c : Nat} {es : List Sl} {s : NtS} (w : World) (h : YtIn B w y A c es s) (hs : NtOk s) (i : Int) (hi : hasN s i = true) (hok : okF (atN s i) = true) (hT : ∀ x ∈ s.2, 0 ≤ x ∧ x ≤ 1000000) : Calls Try.prog 31 #[.pointer (some ⟨y, 0, none⟩), .int .i64 i] w (GivesYd B y A s i w) := by
  have hB := below1 w (.cells #[.int .i64 0, .int .i64 0, .int .i64 0, .int .i64 0, .int .i64 0, .int .i64 0, .slice none 0 0] 34)
  have hO : Whole (w.alloc (.cells #[.int .i64 0, .int .i64 0, .int .i64 0, .int .i64 0, .int .i64 0, .int .i64 0, .slice none 0 0] 34)) w.heap.size 34 [.int .i64 0, .int .i64 0, .int .i64 0, .int .i64 0, .int .i64 0, .int .i64 0, .slice none 0 0] := Whole.new_ _ _ _
  have hN1 := h.below hB
  have HA := Lib.hid (yt_at _ hN1 hs i)
  have hat : atR s i = takeR (atN s i) := by unfold atR; rw [if_pos hi]
  obtain ⟨f, gf⟩ : ∃ z, (takeR (atN s i)).1 = z := ⟨_, rfl⟩
  obtain ⟨M, gM⟩ : ∃ z, (takeR (atN s i)).2.1 = z := ⟨_, rfl⟩
  have ge : (takeR (atN s i)).2.2 = 0 := by unfold takeR; rw [hok]; rfl
  have HR : RowKit.Hid (atR s i = (f, M, 0)) := Lib.hid (by rw [hat, ← gf, ← gM, ← ge])
  have HD : RowKit.Hid (delivN s i = goneN s i 2) := Lib.hid (by unfold delivN; rw [if_pos hi, hok]; rfl)
  have HLT : RowKit.Hid (∀ b, YtT y A b → b < w.heap.size) := Lib.hid (fun b hb => (h.lt b hb).2)
  have HS6 := Lib.hid hs.six
  have HTB : RowKit.Hid (∀ k, 0 ≤ s.2.getD k 0 ∧ s.2.getD k 0 ≤ 1000000) := Lib.hid (fun k => getD_small hT k)
  have HO := Lib.hid hO
  have HB := Lib.hid hB
  have HN1 := Lib.hid hN1
  have Hs := Lib.hid hs
  have Hi := Lib.hid hi
  clear h hs hi hT hB hO hN1 hat gf gM ge hok
  go_enter Try.func31, Try.ntmps31
  go_upto_region 1 with fail
  obtain ⟨W1, gW1⟩ : ∃ x, w.alloc (.cells #[.int .i64 0, .int .i64 0, .int .i64 0, .int .i64 0, .int .i64 0, .int .i64 0, .slice none 0 0] 34) = x := ⟨_, rfl⟩
  obtain ⟨g0, gg0⟩ : ∃ x, w.heap.size = x := ⟨_, rfl⟩
  have HG0 : RowKit.Hid (w.heap.size = g0) := Lib.hid gg0
  rw [gW1] at HO HB HA HN1 ⊢
  rw [gg0] at HO HLT ⊢
  clear gW1 gg0
  go_wp2_with fail
  refine HA.out.mono ?_
  rintro e1 w2 ⟨A2, c2, rfl, hr2, hn2, hb2⟩
  rw [HR.out] at hr2 hn2 ⊢
  have HR2 := Lib.hid hr2
  have HN2 := Lib.hid hn2
  have HB2 := Lib.hid hb2
  have HO2 := Lib.hid (HO.out.below hb2)
  have HI2 := Lib.hid (HN1.out.below hb2)
  clear hr2 hb2 hn2 HA
  rename_i hK
  refine hK _ _ ?_
  refine wl_read (v := ?_) (some 8) rfl (by rfl) ?_ ?_
  rotate_left
  · go_simp; (try with_reducible rfl)
  simp only [Act.put, List.setIfInBounds_toArray, List.set_cons_zero, List.set_cons_succ]
  refine wl_read (v := .agg (frCells f A2 M.length c2).toArray) (some 12) rfl (by rfl) ?_ ?_
  · go_simp; (try rfl)
  simp only [Act.put, List.setIfInBounds_toArray, List.set_cons_zero, List.set_cons_succ]
  refine wl_read (v := ?_) (some 13) rfl (by rfl) ?_ ?_
  rotate_left
  · go_simp; (try with_reducible rfl)
  simp only [Act.put, List.setIfInBounds_toArray, List.set_cons_zero, List.set_cons_succ]
  refine wl_new 6 rfl rfl rfl 34 (.tmp 12) rfl rfl #[.int .i64 0, .int .i64 0, .int .i64 0, .int .i64 0, .int .i64 0, .int .i64 0, .slice none 0 0] ?_ (frCells f A2 M.length c2).toArray (by simp) rfl (by kernel_rfl) rfl (by simp [frCells, Value.oneCell']) ?_
  · go_simp; (try with_reducible rfl)
  simp only [Act.put, List.setIfInBounds_toArray, List.set_cons_zero, List.set_cons_succ]
  have HY3 : RowKit.Hid (Whole (w2.alloc (.cells (frCells f A2 M.length c2).toArray 34)) w2.heap.size 34 (frCells f A2 M.length c2)) := Lib.hid (Whole.new_ _ _ _)
  have HG5 : RowKit.Hid (g0 < w2.heap.size) := Lib.hid HO2.out.lt
  have HO3 := Lib.hid (HO2.out.al (.cells (frCells f A2 M.length c2).toArray 34))
  have HR3 := Lib.hid (HR2.out.al (.cells (frCells f A2 M.length c2).toArray 34))
  have HI3 := Lib.hid (HI2.out.below (below1 w2 (.cells (frCells f A2 M.length c2).toArray 34)))
  have HG1 : RowKit.Hid (g0 < W1.heap.size) := Lib.hid HO.out.lt
  have HB3 : RowKit.Hid (Below w.heap.size w (w2.alloc (.cells (frCells f A2 M.length c2).toArray 34))) := Lib.hid (bel_al (HB.out.trans (HB2.out.mono HB.out.size)) _)
  obtain ⟨w3, gw3⟩ : ∃ z, w2.alloc (.cells (frCells f A2 M.length c2).toArray 34) = z := ⟨_, rfl⟩
  obtain ⟨b5, gb5⟩ : ∃ z, w2.heap.size = z := ⟨_, rfl⟩
  rw [gw3] at HY3 HO3 HR3 HI3 HB3 ⊢
  rw [gb5] at HY3 HG5 ⊢
  clear gw3 gb5 HB2 HO2 HI2 HR2 hK HO HB HN1
  have HT := Lib.hid (yt_gone w3 HI3.out Hs.out i Hi.out)
  go_wp2_with fail
  refine HT.out.mono ?_
  rintro e1 w4 ⟨rfl, A5, c5, es5, hY4, hG4⟩
  have HY4 := Lib.hid hY4
  have HGo4 := Lib.hid hG4
  clear hY4 hG4 HT
  go_upto_region 6 with fail
  obtain ⟨tk_, gtk_⟩ : ∃ z, s.2.getD 2 0 = z := ⟨_, rfl⟩
  have ldk_ : ∀ w', Kept Nil_ w4.drew w' → w'.cell? ⟨y, 3, none⟩ = some (.int .i64 tk_) := fun w' hk => hk.nil_cell (HY4.out.drew.box.cell (i := 1 + 2) (gtk_ ▸ yt_cell (by rw [HS6.out]; decide)))
  have Gtk_ := Lib.hid gtk_
  have hwk_ : IntKind.i64.wrap (tk_ + 1) = tk_ + 1 := by
    have h1 := HTB.out 2
    rw [gtk_] at h1
    exact IntWalk.i64_in _ (by omega)
  clear gtk_
  refine wp_region_tail (Nil_) [9] (by kernel_rfl) ?_
  apply wpT_next 0 (some 23) (by kernel_rfl)
  · simp only [List.getElem?_toArray, List.getElem?_cons_succ, List.getElem?_cons_zero]; exact rfl
  · rfl
  · kernel_rfl
  · kernel_rfl
  · kernel_rfl
  · exact fun _ _ _ _ h => h
  apply Exists.intro
  apply And.intro
  · apply yr_run; rfl; intro w' hw'; go_simp; (try with_reducible rfl)
  simp only [Act.put, List.setIfInBounds_toArray, List.set_cons_zero, List.set_cons_succ]
  apply wpT_next 1 (some 24) (by kernel_rfl)
  · simp only [List.getElem?_toArray, List.getElem?_cons_succ, List.getElem?_cons_zero]; exact rfl
  · rfl
  · kernel_rfl
  · kernel_rfl
  · kernel_rfl
  · exact fun _ _ _ _ h => h
  apply Exists.intro
  apply And.intro
  · apply yr_run; rfl; intro w' hw'; go_simp; (try with_reducible rfl)
  simp only [Act.put, List.setIfInBounds_toArray, List.set_cons_zero, List.set_cons_succ]
  apply wpT_next 2 (some 25) (by kernel_rfl)
  · simp only [List.getElem?_toArray, List.getElem?_cons_succ, List.getElem?_cons_zero]; exact rfl
  · rfl
  · kernel_rfl
  · kernel_rfl
  · kernel_rfl
  · exact fun _ _ _ _ h => h
  apply Exists.intro
  apply And.intro
  · apply yr_run; rfl; intro w' hw'; go_simp; (try with_reducible rfl)
  simp only [Act.put, List.setIfInBounds_toArray, List.set_cons_zero, List.set_cons_succ]
  apply wpT_next 3 (some 26) (by kernel_rfl)
  · simp only [List.getElem?_toArray, List.getElem?_cons_succ, List.getElem?_cons_zero]; exact rfl
  · rfl
  · kernel_rfl
  · kernel_rfl
  · kernel_rfl
  · exact fun _ _ _ _ h => h
  apply Exists.intro
  apply And.intro
  · apply yr_run; rfl; intro w' hw'; go_simp; (try with_reducible rfl)
  simp only [Act.put, List.setIfInBounds_toArray, List.set_cons_zero, List.set_cons_succ]
  apply wpT_next 4 (some 27) (by kernel_rfl)
  · simp only [List.getElem?_toArray, List.getElem?_cons_succ, List.getElem?_cons_zero]; exact rfl
  · rfl
  · kernel_rfl
  · kernel_rfl
  · kernel_rfl
  · exact fun _ _ _ _ h => h
  apply Exists.intro
  apply And.intro
  · apply yr_run; rfl; intro w' hw'; go_simp; (try with_reducible rfl)
  simp only [Act.put, List.setIfInBounds_toArray, List.set_cons_zero, List.set_cons_succ]
  apply wpT_next 5 (some 28) (by kernel_rfl)
  · simp only [List.getElem?_toArray, List.getElem?_cons_succ, List.getElem?_cons_zero]; exact rfl
  · rfl
  · kernel_rfl
  · kernel_rfl
  · kernel_rfl
  · exact fun _ _ _ _ h => h
  apply Exists.intro
  apply And.intro
  · apply yr_run; rfl; intro w' hw'; go_simp; (try with_reducible rfl)
  simp only [Act.put, List.setIfInBounds_toArray, List.set_cons_zero, List.set_cons_succ]
  apply wpT_run 6 (some 29)
  · simp only [List.getElem?_toArray, List.getElem?_cons_succ, List.getElem?_cons_zero]; exact rfl
  · rfl
  · kernel_rfl
  · rfl
  intro w' hw'
  apply Exists.intro
  apply Exists.intro
  apply And.intro
  · go_simp; first | done | exact ⟨rfl, rfl⟩ | exact rfl
  apply And.intro
  · exact Kept.refl _ _
  have hpd6 := hw'
  clear hw'
  simp only [Act.put, List.setIfInBounds_toArray, List.set_cons_zero, List.set_cons_succ]
  apply wpT_run 7 (some 30)
  · simp only [List.getElem?_toArray, List.getElem?_cons_succ, List.getElem?_cons_zero]; exact rfl
  · rfl
  · kernel_rfl
  · rfl
  intro w' hw'
  replace hw' := Ext.trans hpd6 hw'
  apply Exists.intro
  apply Exists.intro
  apply And.intro
  · go_simp; first | done | exact ⟨rfl, rfl⟩ | exact rfl
  apply And.intro
  · exact Kept.refl _ _
  have hpd7 := hw'
  clear hw'
  simp only [Act.put, List.setIfInBounds_toArray, List.set_cons_zero, List.set_cons_succ]
  apply wpT_next 8 (some 31) (by kernel_rfl)
  · simp only [List.getElem?_toArray, List.getElem?_cons_succ, List.getElem?_cons_zero]; exact rfl
  · rfl
  · kernel_rfl
  · kernel_rfl
  · kernel_rfl
  · exact fun _ _ _ _ h => h
  apply Exists.intro
  apply And.intro
  · apply yr_run; rfl; intro w' hw'; go_simp; (try with_reducible rfl)
  simp only [Act.put, List.setIfInBounds_toArray, List.set_cons_zero, List.set_cons_succ]
  apply wpT_last 9
  · simp only [List.getElem?_toArray, List.getElem?_cons_succ, List.getElem?_cons_zero]; exact rfl
  · rfl
  · kernel_rfl
  · rfl
  · decide
  intro w' hw'
  replace hw' := Ext.trans hpd7 hw'
  clear hpd7
  have hN := HY4.out.drew.below hw'
  have hcl := hN.box.cell (i := 1 + 2) (yt_cell (by rw [HS6.out]; decide))
  have hfr := hN.box.free (1 + 2)
  refine ⟨w'.setCell ⟨y, 3, none⟩ (.int .i64 (tk_ + 1)), ?_, ?_⟩
  · go_simp; first | done | exact rfl
  have HWk := Lib.hid (hN.bump 2 (tk_ + 1) (by rw [Gtk_.out]) rfl)
  have HGk := Lib.hid ((NtGo.below (S := YtT y A5) (Below.drew (Below.refl _ _))).trans ((NtGo.below hw').trans HWk.out.2))
  obtain ⟨W5, gW5⟩ : ∃ x, w'.setCell ⟨y, 3, none⟩ (.int .i64 (tk_ + 1)) = x := ⟨_, rfl⟩
  rw [show (⟨y, 1 + 2, none⟩ : Addr) = ⟨y, 3, none⟩ from rfl, gW5] at HWk HGk
  rw [gW5]
  clear hw' hN hcl hfr gW5
  try simp only [Act.put, List.setIfInBounds_toArray, List.set_cons_zero, List.set_cons_succ]
  refine wpT_done (by kernel_rfl) ?_ _
  intro w5_ hw6
  have HY5_ := Lib.hid (HWk.out.1.below hw6)
  have HG5_ := Lib.hid (HGk.out.trans (NtGo.below hw6))
  clear hw6 HWk HGk ldk_ hwk_ Gtk_
  have HGa := Lib.hid (HGo4.out.trans HG5_.out)
  have HGo := Lib.hid ((NtGo.below HB3.out).trans HGa.out)
  have HI5 := HY5_
  obtain ⟨w5, gw5⟩ : ∃ z, w5_ = z := ⟨_, rfl⟩
  rw [gw5] at HGa HGo HI5 ⊢
  have HO5 := Lib.hid (HGa.out.k.whole HO3.out (fun q => by have := HLT.out _ q; omega))
  have HY5 := Lib.hid (HGa.out.k.whole HY3.out (fun q => by have := HLT.out _ q; have := HG5.out; omega))
  have HR5 := Lib.hid (HR3.out.kept_ne HGa.out.k (fun a ha hp q => by have := HLT.out _ q; have := HN2.out a ha hp; have := HG1.out; omega))
  clear gw5 HO3 HY3 HR3 HI3 HB3 HY4 HGo4 HGa HY5_ HG5_
  go_upto_region 8 with fail
  refine wp_region_lit ?_
  refine wl_load (some 41) rfl (by rfl) 34 (.tmp 6) rfl b5 rfl 34 (frCells f A2 M.length c2) _ HY5.out Try.underlying34 rfl (by kernel_rfl) ?_
  simp only [Act.put, List.setIfInBounds_toArray, List.set_cons_zero, List.set_cons_succ]
  refine wl_read (v := ?_) (some 42) rfl (by rfl) ?_ ?_
  rotate_left
  · go_simp; (try with_reducible rfl)
  simp only [Act.put, List.setIfInBounds_toArray, List.set_cons_zero, List.set_cons_succ]
  refine wpList_store_row rfl 34 (.tmp 4) (.tmp 41) rfl g0 (frCells f A2 M.length c2).toArray rfl rfl 34 #[.int .i64 0, .int .i64 0, .int .i64 0, .int .i64 0, .int .i64 0, .int .i64 0, .slice none 0 0] HO5.out (by kernel_rfl) rfl (by simp [frCells, Value.oneCell']) ?_
  have HO6 : RowKit.Hid (Whole (w5.setRow g0 (frCells f A2 M.length c2).toArray) g0 34 (frCells f A2 M.length c2)) := Lib.hid (Whole.row HO5.out (frCells f A2 M.length c2))
  have hk6 := kept_row (S := fun i => i = g0) (w := w5) rfl (frCells f A2 M.length c2).toArray
  have HI6 := Lib.hid (HI5.out.keep hk6 (fun b hb q => HI5.out.noFrame hb ((show b = g0 from q) ▸ HO5.out)) (fun b q => by rw [show b = g0 from q]; exact nob_whole HO5.out (by decide)))
  have HGo6 : RowKit.Hid (NtGo w (w5.setRow g0 (frCells f A2 M.length c2).toArray) (YtT y A) (YtT y A5)) := Lib.hid ⟨⟨HGo.out.k.os, HGo.out.k.tape, HGo.out.k.output, by rw [setRow_size]; exact HGo.out.k.size, fun b hb hn => (setRow_other w5 g0 b _ (fun e => by have := HG0.out; omega)).trans (HGo.out.k.block b hb hn)⟩, HGo.out.n⟩
  have HR6 : RowKit.Hid (RdS (w5.setRow g0 (frCells f A2 M.length c2).toArray) (w5.setRow g0 (frCells f A2 M.length c2).toArray).heap.size 1 A2 M.length c2 (rowsV f8 M)) := Lib.hid (HR5.out.row_far (fun a ha hp e => by have h1 := HN2.out a ha hp; have h2 := HG1.out; have h3 : a.block = g0 := Option.some.inj e; omega) _)
  go_wp2
  refine ret_whole2 rfl g0 rfl rfl HO6.out Try.underlying34 rfl (by kernel_rfl) rfl ?_
  unfold GivesYd
  rw [HR.out]
  exact ⟨A2, c2, rfl, HR6.out, fun a ha hp => (by have h1 := HN2.out a ha hp; have := HG1.out; have := HG0.out; omega), A5, c5, es5, by rw [HD.out]; exact HI6.out, HGo6.out⟩
set_option maxRecDepth 100000 in
set_option maxHeartbeats 4000000 in
theorem yt_deliv_bad {B : Nat} {y : Nat} {A : Option Addr} {c : Nat} {es : List Sl} {s : NtS} (w : World) (h : YtIn B w y A c es s) (hs : NtOk s) (i : Int) (hi : hasN s i = true) (hok : okF (atN s i) = false) (hT : ∀ x ∈ s.2, 0 ≤ x ∧ x ≤ 1000000) : Calls Try.prog 31 #[.pointer (some ⟨y, 0, none⟩), .int .i64 i] w (GivesYd B y A s i w) := by
  have hB := below1 w (.cells #[.int .i64 0, .int .i64 0, .int .i64 0, .int .i64 0, .int .i64 0, .int .i64 0, .slice none 0 0] 34)
  have hO : Whole (w.alloc (.cells #[.int .i64 0, .int .i64 0, .int .i64 0, .int .i64 0, .int .i64 0, .int .i64 0, .slice none 0 0] 34)) w.heap.size 34 [.int .i64 0, .int .i64 0, .int .i64 0, .int .i64 0, .int .i64 0, .int .i64 0, .slice none 0 0] := Whole.new_ _ _ _
  have hN1 := h.below hB
  have HA := Lib.hid (yt_at _ hN1 hs i)
  have hat : atR s i = takeR (atN s i) := by unfold atR; rw [if_pos hi]
  obtain ⟨f, gf⟩ : ∃ z, (takeR (atN s i)).1 = z := ⟨_, rfl⟩
  obtain ⟨M, gM⟩ : ∃ z, (takeR (atN s i)).2.1 = z := ⟨_, rfl⟩
  have ge : (takeR (atN s i)).2.2 = 2 := by unfold takeR; rw [hok]; rfl
  have HR : RowKit.Hid (atR s i = (f, M, 2)) := Lib.hid (by rw [hat, ← gf, ← gM, ← ge])
  have HD : RowKit.Hid (delivN s i = goneN s i 3) := Lib.hid (by unfold delivN; rw [if_pos hi, hok]; rfl)
  have HLT : RowKit.Hid (∀ b, YtT y A b → b < w.heap.size) := Lib.hid (fun b hb => (h.lt b hb).2)
  have HS6 := Lib.hid hs.six
  have HTB : RowKit.Hid (∀ k, 0 ≤ s.2.getD k 0 ∧ s.2.getD k 0 ≤ 1000000) := Lib.hid (fun k => getD_small hT k)
  have HO := Lib.hid hO
  have HB := Lib.hid hB
  have HN1 := Lib.hid hN1
  have Hs := Lib.hid hs
  have Hi := Lib.hid hi
  clear h hs hi hT hB hO hN1 hat gf gM ge hok
  go_enter Try.func31, Try.ntmps31
  go_upto_region 1 with fail
  obtain ⟨W1, gW1⟩ : ∃ x, w.alloc (.cells #[.int .i64 0, .int .i64 0, .int .i64 0, .int .i64 0, .int .i64 0, .int .i64 0, .slice none 0 0] 34) = x := ⟨_, rfl⟩
  obtain ⟨g0, gg0⟩ : ∃ x, w.heap.size = x := ⟨_, rfl⟩
  have HG0 : RowKit.Hid (w.heap.size = g0) := Lib.hid gg0
  rw [gW1] at HO HB HA HN1 ⊢
  rw [gg0] at HO HLT ⊢
  clear gW1 gg0
  go_wp2_with fail
  refine HA.out.mono ?_
  rintro e1 w2 ⟨A2, c2, rfl, hr2, hn2, hb2⟩
  rw [HR.out] at hr2 hn2 ⊢
  have HR2 := Lib.hid hr2
  have HN2 := Lib.hid hn2
  have HB2 := Lib.hid hb2
  have HO2 := Lib.hid (HO.out.below hb2)
  have HI2 := Lib.hid (HN1.out.below hb2)
  clear hr2 hb2 hn2 HA
  rename_i hK
  refine hK _ _ ?_
  refine wl_read (v := ?_) (some 8) rfl (by rfl) ?_ ?_
  rotate_left
  · go_simp; (try with_reducible rfl)
  simp only [Act.put, List.setIfInBounds_toArray, List.set_cons_zero, List.set_cons_succ]
  refine wl_read (v := .agg (frCells f A2 M.length c2).toArray) (some 12) rfl (by rfl) ?_ ?_
  · go_simp; (try rfl)
  simp only [Act.put, List.setIfInBounds_toArray, List.set_cons_zero, List.set_cons_succ]
  refine wl_read (v := ?_) (some 13) rfl (by rfl) ?_ ?_
  rotate_left
  · go_simp; (try with_reducible rfl)
  simp only [Act.put, List.setIfInBounds_toArray, List.set_cons_zero, List.set_cons_succ]
  refine wl_new 6 rfl rfl rfl 34 (.tmp 12) rfl rfl #[.int .i64 0, .int .i64 0, .int .i64 0, .int .i64 0, .int .i64 0, .int .i64 0, .slice none 0 0] ?_ (frCells f A2 M.length c2).toArray (by simp) rfl (by kernel_rfl) rfl (by simp [frCells, Value.oneCell']) ?_
  · go_simp; (try with_reducible rfl)
  simp only [Act.put, List.setIfInBounds_toArray, List.set_cons_zero, List.set_cons_succ]
  have HY3 : RowKit.Hid (Whole (w2.alloc (.cells (frCells f A2 M.length c2).toArray 34)) w2.heap.size 34 (frCells f A2 M.length c2)) := Lib.hid (Whole.new_ _ _ _)
  have HG5 : RowKit.Hid (g0 < w2.heap.size) := Lib.hid HO2.out.lt
  have HO3 := Lib.hid (HO2.out.al (.cells (frCells f A2 M.length c2).toArray 34))
  have HR3 := Lib.hid (HR2.out.al (.cells (frCells f A2 M.length c2).toArray 34))
  have HI3 := Lib.hid (HI2.out.below (below1 w2 (.cells (frCells f A2 M.length c2).toArray 34)))
  have HG1 : RowKit.Hid (g0 < W1.heap.size) := Lib.hid HO.out.lt
  have HB3 : RowKit.Hid (Below w.heap.size w (w2.alloc (.cells (frCells f A2 M.length c2).toArray 34))) := Lib.hid (bel_al (HB.out.trans (HB2.out.mono HB.out.size)) _)
  obtain ⟨w3, gw3⟩ : ∃ z, w2.alloc (.cells (frCells f A2 M.length c2).toArray 34) = z := ⟨_, rfl⟩
  obtain ⟨b5, gb5⟩ : ∃ z, w2.heap.size = z := ⟨_, rfl⟩
  rw [gw3] at HY3 HO3 HR3 HI3 HB3 ⊢
  rw [gb5] at HY3 HG5 ⊢
  clear gw3 gb5 HB2 HO2 HI2 HR2 hK HO HB HN1
  have HT := Lib.hid (yt_gone w3 HI3.out Hs.out i Hi.out)
  go_wp2_with fail
  refine HT.out.mono ?_
  rintro e1 w4 ⟨rfl, A5, c5, es5, hY4, hG4⟩
  have HY4 := Lib.hid hY4
  have HGo4 := Lib.hid hG4
  clear hY4 hG4 HT
  go_upto_region 7 with fail
  obtain ⟨tk_, gtk_⟩ : ∃ z, s.2.getD 3 0 = z := ⟨_, rfl⟩
  have ldk_ : ∀ w', Kept Nil_ w4.drew w' → w'.cell? ⟨y, 4, none⟩ = some (.int .i64 tk_) := fun w' hk => hk.nil_cell (HY4.out.drew.box.cell (i := 1 + 3) (gtk_ ▸ yt_cell (by rw [HS6.out]; decide)))
  have Gtk_ := Lib.hid gtk_
  have hwk_ : IntKind.i64.wrap (tk_ + 1) = tk_ + 1 := by
    have h1 := HTB.out 3
    rw [gtk_] at h1
    exact IntWalk.i64_in _ (by omega)
  clear gtk_
  refine wp_region_tail (Nil_) [9] (by kernel_rfl) ?_
  apply wpT_next 0 (some 32) (by kernel_rfl)
  · simp only [List.getElem?_toArray, List.getElem?_cons_succ, List.getElem?_cons_zero]; exact rfl
  · rfl
  · kernel_rfl
  · kernel_rfl
  · kernel_rfl
  · exact fun _ _ _ _ h => h
  apply Exists.intro
  apply And.intro
  · apply yr_run; rfl; intro w' hw'; go_simp; (try with_reducible rfl)
  simp only [Act.put, List.setIfInBounds_toArray, List.set_cons_zero, List.set_cons_succ]
  apply wpT_next 1 (some 33) (by kernel_rfl)
  · simp only [List.getElem?_toArray, List.getElem?_cons_succ, List.getElem?_cons_zero]; exact rfl
  · rfl
  · kernel_rfl
  · kernel_rfl
  · kernel_rfl
  · exact fun _ _ _ _ h => h
  apply Exists.intro
  apply And.intro
  · apply yr_run; rfl; intro w' hw'; go_simp; (try with_reducible rfl)
  simp only [Act.put, List.setIfInBounds_toArray, List.set_cons_zero, List.set_cons_succ]
  apply wpT_next 2 (some 34) (by kernel_rfl)
  · simp only [List.getElem?_toArray, List.getElem?_cons_succ, List.getElem?_cons_zero]; exact rfl
  · rfl
  · kernel_rfl
  · kernel_rfl
  · kernel_rfl
  · exact fun _ _ _ _ h => h
  apply Exists.intro
  apply And.intro
  · apply yr_run; rfl; intro w' hw'; go_simp; (try with_reducible rfl)
  simp only [Act.put, List.setIfInBounds_toArray, List.set_cons_zero, List.set_cons_succ]
  apply wpT_next 3 (some 35) (by kernel_rfl)
  · simp only [List.getElem?_toArray, List.getElem?_cons_succ, List.getElem?_cons_zero]; exact rfl
  · rfl
  · kernel_rfl
  · kernel_rfl
  · kernel_rfl
  · exact fun _ _ _ _ h => h
  apply Exists.intro
  apply And.intro
  · apply yr_run; rfl; intro w' hw'; go_simp; (try with_reducible rfl)
  simp only [Act.put, List.setIfInBounds_toArray, List.set_cons_zero, List.set_cons_succ]
  apply wpT_next 4 (some 36) (by kernel_rfl)
  · simp only [List.getElem?_toArray, List.getElem?_cons_succ, List.getElem?_cons_zero]; exact rfl
  · rfl
  · kernel_rfl
  · kernel_rfl
  · kernel_rfl
  · exact fun _ _ _ _ h => h
  apply Exists.intro
  apply And.intro
  · apply yr_run; rfl; intro w' hw'; go_simp; (try with_reducible rfl)
  simp only [Act.put, List.setIfInBounds_toArray, List.set_cons_zero, List.set_cons_succ]
  apply wpT_next 5 (some 37) (by kernel_rfl)
  · simp only [List.getElem?_toArray, List.getElem?_cons_succ, List.getElem?_cons_zero]; exact rfl
  · rfl
  · kernel_rfl
  · kernel_rfl
  · kernel_rfl
  · exact fun _ _ _ _ h => h
  apply Exists.intro
  apply And.intro
  · apply yr_run; rfl; intro w' hw'; go_simp; (try with_reducible rfl)
  simp only [Act.put, List.setIfInBounds_toArray, List.set_cons_zero, List.set_cons_succ]
  apply wpT_run 6 (some 38)
  · simp only [List.getElem?_toArray, List.getElem?_cons_succ, List.getElem?_cons_zero]; exact rfl
  · rfl
  · kernel_rfl
  · rfl
  intro w' hw'
  apply Exists.intro
  apply Exists.intro
  apply And.intro
  · go_simp; first | done | exact ⟨rfl, rfl⟩ | exact rfl
  apply And.intro
  · exact Kept.refl _ _
  have hpd6 := hw'
  clear hw'
  simp only [Act.put, List.setIfInBounds_toArray, List.set_cons_zero, List.set_cons_succ]
  apply wpT_run 7 (some 39)
  · simp only [List.getElem?_toArray, List.getElem?_cons_succ, List.getElem?_cons_zero]; exact rfl
  · rfl
  · kernel_rfl
  · rfl
  intro w' hw'
  replace hw' := Ext.trans hpd6 hw'
  apply Exists.intro
  apply Exists.intro
  apply And.intro
  · go_simp; first | done | exact ⟨rfl, rfl⟩ | exact rfl
  apply And.intro
  · exact Kept.refl _ _
  have hpd7 := hw'
  clear hw'
  simp only [Act.put, List.setIfInBounds_toArray, List.set_cons_zero, List.set_cons_succ]
  apply wpT_next 8 (some 40) (by kernel_rfl)
  · simp only [List.getElem?_toArray, List.getElem?_cons_succ, List.getElem?_cons_zero]; exact rfl
  · rfl
  · kernel_rfl
  · kernel_rfl
  · kernel_rfl
  · exact fun _ _ _ _ h => h
  apply Exists.intro
  apply And.intro
  · apply yr_run; rfl; intro w' hw'; go_simp; (try with_reducible rfl)
  simp only [Act.put, List.setIfInBounds_toArray, List.set_cons_zero, List.set_cons_succ]
  apply wpT_last 9
  · simp only [List.getElem?_toArray, List.getElem?_cons_succ, List.getElem?_cons_zero]; exact rfl
  · rfl
  · kernel_rfl
  · rfl
  · decide
  intro w' hw'
  replace hw' := Ext.trans hpd7 hw'
  clear hpd7
  have hN := HY4.out.drew.below hw'
  have hcl := hN.box.cell (i := 1 + 3) (yt_cell (by rw [HS6.out]; decide))
  have hfr := hN.box.free (1 + 3)
  refine ⟨w'.setCell ⟨y, 4, none⟩ (.int .i64 (tk_ + 1)), ?_, ?_⟩
  · go_simp; first | done | exact rfl
  have HWk := Lib.hid (hN.bump 3 (tk_ + 1) (by rw [Gtk_.out]) rfl)
  have HGk := Lib.hid ((NtGo.below (S := YtT y A5) (Below.drew (Below.refl _ _))).trans ((NtGo.below hw').trans HWk.out.2))
  obtain ⟨W5, gW5⟩ : ∃ x, w'.setCell ⟨y, 4, none⟩ (.int .i64 (tk_ + 1)) = x := ⟨_, rfl⟩
  rw [show (⟨y, 1 + 3, none⟩ : Addr) = ⟨y, 4, none⟩ from rfl, gW5] at HWk HGk
  rw [gW5]
  clear hw' hN hcl hfr gW5
  try simp only [Act.put, List.setIfInBounds_toArray, List.set_cons_zero, List.set_cons_succ]
  refine wpT_done (by kernel_rfl) ?_ _
  intro w5_ hw6
  have HY5_ := Lib.hid (HWk.out.1.below hw6)
  have HG5_ := Lib.hid (HGk.out.trans (NtGo.below hw6))
  clear hw6 HWk HGk ldk_ hwk_ Gtk_
  have HGa := Lib.hid (HGo4.out.trans HG5_.out)
  have HGo := Lib.hid ((NtGo.below HB3.out).trans HGa.out)
  have HI5 := HY5_
  obtain ⟨w5, gw5⟩ : ∃ z, w5_ = z := ⟨_, rfl⟩
  rw [gw5] at HGa HGo HI5 ⊢
  have HO5 := Lib.hid (HGa.out.k.whole HO3.out (fun q => by have := HLT.out _ q; omega))
  have HY5 := Lib.hid (HGa.out.k.whole HY3.out (fun q => by have := HLT.out _ q; have := HG5.out; omega))
  have HR5 := Lib.hid (HR3.out.kept_ne HGa.out.k (fun a ha hp q => by have := HLT.out _ q; have := HN2.out a ha hp; have := HG1.out; omega))
  clear gw5 HO3 HY3 HR3 HI3 HB3 HY4 HGo4 HGa HY5_ HG5_
  go_upto_region 8 with fail
  refine wp_region_lit ?_
  refine wl_load (some 41) rfl (by rfl) 34 (.tmp 6) rfl b5 rfl 34 (frCells f A2 M.length c2) _ HY5.out Try.underlying34 rfl (by kernel_rfl) ?_
  simp only [Act.put, List.setIfInBounds_toArray, List.set_cons_zero, List.set_cons_succ]
  refine wl_read (v := ?_) (some 42) rfl (by rfl) ?_ ?_
  rotate_left
  · go_simp; (try with_reducible rfl)
  simp only [Act.put, List.setIfInBounds_toArray, List.set_cons_zero, List.set_cons_succ]
  refine wpList_store_row rfl 34 (.tmp 4) (.tmp 41) rfl g0 (frCells f A2 M.length c2).toArray rfl rfl 34 #[.int .i64 0, .int .i64 0, .int .i64 0, .int .i64 0, .int .i64 0, .int .i64 0, .slice none 0 0] HO5.out (by kernel_rfl) rfl (by simp [frCells, Value.oneCell']) ?_
  have HO6 : RowKit.Hid (Whole (w5.setRow g0 (frCells f A2 M.length c2).toArray) g0 34 (frCells f A2 M.length c2)) := Lib.hid (Whole.row HO5.out (frCells f A2 M.length c2))
  have hk6 := kept_row (S := fun i => i = g0) (w := w5) rfl (frCells f A2 M.length c2).toArray
  have HI6 := Lib.hid (HI5.out.keep hk6 (fun b hb q => HI5.out.noFrame hb ((show b = g0 from q) ▸ HO5.out)) (fun b q => by rw [show b = g0 from q]; exact nob_whole HO5.out (by decide)))
  have HGo6 : RowKit.Hid (NtGo w (w5.setRow g0 (frCells f A2 M.length c2).toArray) (YtT y A) (YtT y A5)) := Lib.hid ⟨⟨HGo.out.k.os, HGo.out.k.tape, HGo.out.k.output, by rw [setRow_size]; exact HGo.out.k.size, fun b hb hn => (setRow_other w5 g0 b _ (fun e => by have := HG0.out; omega)).trans (HGo.out.k.block b hb hn)⟩, HGo.out.n⟩
  have HR6 : RowKit.Hid (RdS (w5.setRow g0 (frCells f A2 M.length c2).toArray) (w5.setRow g0 (frCells f A2 M.length c2).toArray).heap.size 1 A2 M.length c2 (rowsV f8 M)) := Lib.hid (HR5.out.row_far (fun a ha hp e => by have h1 := HN2.out a ha hp; have h2 := HG1.out; have h3 : a.block = g0 := Option.some.inj e; omega) _)
  go_wp2
  refine ret_whole2 rfl g0 rfl rfl HO6.out Try.underlying34 rfl (by kernel_rfl) rfl ?_
  unfold GivesYd
  rw [HR.out]
  exact ⟨A2, c2, rfl, HR6.out, fun a ha hp => (by have h1 := HN2.out a ha hp; have := HG1.out; have := HG0.out; omega), A5, c5, es5, by rw [HD.out]; exact HI6.out, HGo6.out⟩
end Go.Proofs.Ytibbibpfnpjjdaa
