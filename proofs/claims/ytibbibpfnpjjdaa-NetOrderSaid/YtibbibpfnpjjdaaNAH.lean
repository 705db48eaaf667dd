/- Several texts in one. -/
import Derived.Test.YtibbibpfnpjjdaaNAG
import Derived.Test.YtibbibpfnpjjdaaNAE
import Derived.Test.YtibbibpfnpjjdaaNAC

/- The document's net: Double. -/
namespace Go.Proofs.Ytibbibpfnpjjdaa
open Go.RowKit
set_option linter.unusedSimpArgs false
set_option linter.unusedVariables false

section
variable {P : Program} {md : Region.Mode} {ops : Array Oper} {S : Nat → Prop} {ts : List Nat} {Q : Exit → Act → World → Prop} {fuel : Nat} {listed : Array Bool} {a : Act} {w : World}
/-- Operation i taken next, in a region with a tail. -/
def AtT (P : Program) (md : Region.Mode) (ops : Array Oper) (S : Nat → Prop) (ts : List Nat) (Q : Exit → Act → World → Prop) (fuel : Nat) (listed : Array Bool) (a : Act) (w : World) (i : Nat) : Prop :=
  ∀ w', Ext w w' → wpOp P ops Q i (fun a' w'' => (i ∉ ts → Kept S w' w'') ∧ wpT P md ops S ts Q fuel (listed.setIfInBounds i true) a' w'') a w'
theorem wpT_two (i j : Nat) (hr : Region.ready md ops listed = [i, j]) (h1 : AtT P md ops S ts Q fuel listed a w i) (h2 : AtT P md ops S ts Q fuel listed a w j) : wpT P md ops S ts Q (fuel + 1) listed a w := by
  refine ⟨fun h0 => (by rw [h0] at hr; cases hr), fun w1 hw1 k hk => ?_⟩
  rw [hr] at hk
  rcases List.mem_cons.1 hk with rfl | hk
  · exact h1 w1 hw1
  · obtain rfl := List.mem_singleton.1 hk
    exact h2 w1 hw1
theorem wpT_one (i : Nat) (hr : Region.ready md ops listed = [i]) (h1 : AtT P md ops S ts Q fuel listed a w i) : wpT P md ops S ts Q (fuel + 1) listed a w := by
  refine ⟨fun h0 => (by rw [h0] at hr; cases hr), fun w1 hw1 k hk => ?_⟩
  rw [hr] at hk
  obtain rfl := List.mem_singleton.1 hk
  exact h1 w1 hw1
theorem atT_run (i : Nat) (d : Option Tmp) {oi : Oper} (hi : ops[i]? = some oi) (hd : oi.dst = d) (hw : Region.wanted oi (yielded ops a.tmps) = true)
    (h : ∀ w', Ext w w' → ∃ v w'', (execOp a.eval oi).run P w' = .ok (.value v) w'' ∧ Kept S w' w'' ∧ wpT P md ops S ts Q fuel (listed.setIfInBounds i true) (a.put d v) w'') : AtT P md ops S ts Q fuel listed a w i := by
  subst hd
  intro w' hx
  obtain ⟨v, w'', h1, h2, h3⟩ := h w' hx
  unfold Go.wpOp
  simp only [hi, hw, if_true]
  refine .inl ?_
  unfold Oper.wp
  rw [h1]
  exact ⟨fun _ => h2, h3⟩
end
theorem ow_app2 {w0 W : World} {v : Value} {n : Nat} {es : List Sl} (hO : Ow w0 w0.heap.size 32 1 v n (rowsV slc es) W) (A : Option Addr) (m c : Nat) (es2 : List Sl) (hr : RdS W W.heap.size 1 A m c (rowsV slc es2)) (hn : n + m ≤ 100000) :
    ∃ A' c' W', (Builtin.append_ #[27, 27] 27 #[v, .slice A m c]).run Try.prog W = .ok (.slice A' (n + m) c') W' ∧ Ow w0 w0.heap.size 32 1 (.slice A' (n + m) c') (n + m) (rowsV slc (es ++ es2)) W' ∧ Below w0.heap.size W W' ∧
      ∀ b, b < W.heap.size → some b ≠ v.ownBlock → W'.heap[b]? = W.heap[b]? ∧ some b ≠ (Value.slice A' (n + m) c').ownBlock := by
  obtain ⟨i0, hi, hz0, hz1, hz2⟩ := info_parts_ info_sl
  obtain ⟨v', W', hrun, ho, hb, hg, hv⟩ := Ow.app2 (P := Try.prog) 27 27 32 i0 _ 1 24 _ Try.underlying27 hi hz0 hz1 hz2 rfl (by decide) _ _ _ hO W.heap.size A m c _ hr (slc_all es2) (by unfold maxLen; omega) (by omega)
  rw [← rowsV_app] at ho
  obtain ⟨A', c', rfl, _⟩ := ho.rds
  refine ⟨A', c', W', hrun, ho, hb, fun b h1 h2 => ⟨hg.block b h1 h2, fun e => ?_⟩⟩
  rcases hv with hv | hv
  · exact h2 (e.trans hv)
  · have := Option.some.inj (e.trans hv); omega
set_option maxRecDepth 100000 in
set_option maxHeartbeats 4000000 in
theorem yt_doub_no {B : Nat} {y : Nat} {A : Option Addr} {c : Nat} {es : List Sl} {s : NtS} (w : World) (h : YtIn B w y A c es s) (i : Int) (hi : ¬ (hasN s i = true ∧ s.1.length < 4096)) :
    Calls Try.prog 33 #[.pointer (some ⟨y, 0, none⟩), .int .i64 i] w fun e w' => e = .returned (.int .i64 (doubE s i)) ∧ w' = w := by
  have l0 := h.box.cell (i := 0) (v := .slice A s.1.length c) rfl
  by_cases hh : hasN s i = true
  · have HE : RowKit.Hid (doubE s i = 20) := Lib.hid (by unfold doubE; rw [if_pos hh, if_neg (fun q => hi ⟨hh, q⟩)])
    have hn : ¬ s.1.length < 4096 := fun q => hi ⟨hh, q⟩
    have h1 := of_decide_eq_true hh
    obtain ⟨n, gn⟩ : ∃ n, s.1.length = n := ⟨_, rfl⟩
    rw [gn] at l0 hn h1
    have hq : decide ((4096 : Int) ≤ (n : Int)) = true := decide_eq_true (by omega)
    have hq1 : decide (i < 0) = false := decide_eq_false (by omega)
    have hq2 : decide ((n : Int) ≤ i) = false := decide_eq_false (by omega)
    clear gn hn h1 hi hh h
    go_enter Try.func33, Try.ntmps33
    go_wp2
    go_ret
    exact ⟨by rw [HE.out]; rfl, rfl⟩
  · have HE : RowKit.Hid (doubE s i = 1) := Lib.hid (by unfold doubE; rw [if_neg hh])
    obtain ⟨n, gn⟩ : ∃ n, s.1.length = n := ⟨_, rfl⟩
    rw [gn] at l0
    by_cases h0 : i < 0
    · have hq1 : decide (i < 0) = true := decide_eq_true h0
      clear hh h hi gn l0
      go_enter Try.func33, Try.ntmps33
      go_wp2
      go_ret
      exact ⟨by rw [HE.out]; rfl, rfl⟩
    · have hq1 : decide (i < 0) = false := decide_eq_false h0
      have hq2 : decide ((n : Int) ≤ i) = true := decide_eq_true (by
        unfold hasN at hh
        have := of_decide_eq_false (by simpa using hh : decide (0 ≤ i ∧ i < (s.1.length : Int)) = false)
        omega)
      clear hh h hi gn h0
      go_enter Try.func33, Try.ntmps33
      go_wp2
      go_ret
      exact ⟨by rw [HE.out]; rfl, rfl⟩
set_option maxRecDepth 100000 in
set_option maxHeartbeats 4000000 in
theorem yt_doub_yes {B : Nat} {y : Nat} {A : Option Addr} {c : Nat} {es : List Sl} {s : NtS} (w : World) (h : YtIn B w y A c es s) (hs : NtOk s) (i : Int) (hi : hasN s i = true) (hn : s.1.length < 4096) (hT : ∀ x ∈ s.2, 0 ≤ x ∧ x ≤ 1000000) :
    Calls Try.prog 33 #[.pointer (some ⟨y, 0, none⟩), .int .i64 i] w fun e w' => e = .returned (.int .i64 0) ∧ YtSt B y A w (doubN s i) w' := by
  obtain ⟨m, rfl⟩ : ∃ m : Nat, i = (m : Int) := ⟨i.toNat, by have := (of_decide_eq_true hi).1; omega⟩
  have hm : m < s.1.length := by have := (of_decide_eq_true hi).2; omega
  obtain ⟨L, hL⟩ : ∃ L, s.1[m]? = some L := ⟨_, List.getElem?_eq_getElem hm⟩
  obtain ⟨e, he1, he2⟩ := h.each m L hL
  have haL : atN s (m : Int) = L := by unfold atN; rw [Int.toNat_natCast, List.getD_eq_getElem?_getD, hL]; rfl
  have HD : RowKit.Hid (doubN s (m : Int) = (s.1 ++ [L], bump s.2 5)) := Lib.hid (by unfold doubN; rw [if_pos ⟨hi, hn⟩, haL])
  have hrow := h.drew.row
  obtain ⟨b, o, rfl, hlt, hpl⟩ := hrow.place slc_len (by decide) (by omega)
  have k1 := hpl m e he1 0 (.slice e.1 e.2.1 e.2.2) rfl
  rw [Addr.add_lit] at k1
  simp only [Nat.add_zero, Nat.mul_one] at k1
  have l0 := h.box.cell (i := 0) (v := .slice (some ⟨b, o, none⟩) s.1.length c) rfl
  obtain ⟨B0, gB0⟩ : ∃ z, w.drew.heap.size = z := ⟨_, rfl⟩
  have HB0 := Lib.hid gB0
  have ld0 : ∀ w', Kept (From_ B0) w.drew w' → w'.cell? ⟨y, 0, none⟩ = some (.slice (some ⟨b, o, none⟩) s.1.length c) := fun w' hk => hk.from_cell (show y < B0 from gB0 ▸ h.box.lt) (h.drew.box.cell (i := 0) rfl)
  have ld1 : ∀ w', Kept (From_ B0) w.drew w' → w'.cell? ⟨b, o + m, none⟩ = some (.slice e.1 e.2.1 e.2.2) := fun w' hk => hk.from_cell (show b < B0 from gB0 ▸ hlt) k1
  have HR1 := Lib.hid hrow
  have H := Lib.hid h.drew
  have HBy := Lib.hid (he2.below ((Below.refl _ _).drew))
  have HS6 := Lib.hid hs.six
  have HTB : RowKit.Hid (∀ k, 0 ≤ s.2.getD k 0 ∧ s.2.getD k 0 ≤ 1000000) := Lib.hid (fun k => getD_small hT k)
  obtain ⟨n, gn⟩ : ∃ n, s.1.length = n := ⟨_, rfl⟩
  have HL : RowKit.Hid ((s.1 ++ [L]).length = n + 1) := Lib.hid (by rw [List.length_append, gn]; rfl)
  rw [gn] at ld0 l0 HR1 hm hn
  have hq : decide ((4096 : Int) ≤ (n : Int)) = false := decide_eq_false (by omega)
  have hq1 : decide ((m : Int) < 0) = false := decide_eq_false (by omega)
  have hq2 : decide ((n : Int) ≤ (m : Int)) = false := decide_eq_false (by omega)
  have hmI : (m : Int) < (n : Int) := by omega
  clear gB0 gn hi hL he1 he2 haL hrow hlt hpl k1 h hs hT
  go_enter Try.func33, Try.ntmps33
  go_upto_region 5 with fail
  clear hq hq1 hq2 l0
  refine wp_region_tail (From_ B0) [18] (by kernel_rfl) ?_
  apply wpT_next 0 (some 22) (by kernel_rfl)
  · simp only [List.getElem?_toArray, List.getElem?_cons_succ, List.getElem?_cons_zero]; exact rfl
  · rfl
  · kernel_rfl
  · kernel_rfl
  · kernel_rfl
  · exact fun _ _ _ _ h => h
  apply Exists.intro
  apply And.intro
  · apply yr_run; rfl; intro w' hw'; go_simp; (try with_reducible rfl)
  simp only [Act.put, List.setIfInBounds_toArray, List.set_cons_zero, List.set_cons_succ]
  apply wpT_next 2 (some 24) (by kernel_rfl)
  · simp only [List.getElem?_toArray, List.getElem?_cons_succ, List.getElem?_cons_zero]; exact rfl
  · rfl
  · kernel_rfl
  · kernel_rfl
  · kernel_rfl
  · exact fun _ _ _ _ h => h
  apply Exists.intro
  apply And.intro
  · apply yr_run; rfl; intro w' hw'; go_simp; (try with_reducible rfl)
  simp only [Act.put, List.setIfInBounds_toArray, List.set_cons_zero, List.set_cons_succ]
  apply wpT_next 3 (some 25) (by kernel_rfl)
  · simp only [List.getElem?_toArray, List.getElem?_cons_succ, List.getElem?_cons_zero]; exact rfl
  · rfl
  · kernel_rfl
  · kernel_rfl
  · kernel_rfl
  · exact fun _ _ _ _ h => h
  apply Exists.intro
  apply And.intro
  · apply yr_run; rfl; intro w' hw'; go_simp; (try with_reducible rfl)
  simp only [Act.put, List.setIfInBounds_toArray, List.set_cons_zero, List.set_cons_succ]
  apply wpT_next 4 (some 26) (by kernel_rfl)
  · simp only [List.getElem?_toArray, List.getElem?_cons_succ, List.getElem?_cons_zero]; exact rfl
  · rfl
  · kernel_rfl
  · kernel_rfl
  · kernel_rfl
  · exact fun _ _ _ _ h => h
  apply Exists.intro
  apply And.intro
  · apply yr_run; rfl; intro w' hw'; go_simp; (try with_reducible rfl)
  simp only [Act.put, List.setIfInBounds_toArray, List.set_cons_zero, List.set_cons_succ]
  apply wpT_next 5 (some 27) (by kernel_rfl)
  · simp only [List.getElem?_toArray, List.getElem?_cons_succ, List.getElem?_cons_zero]; exact rfl
  · rfl
  · kernel_rfl
  · kernel_rfl
  · kernel_rfl
  · exact fun _ _ _ _ h => h
  apply Exists.intro
  apply And.intro
  · apply yr_run; rfl; intro w' hw'; go_simp; (try with_reducible rfl)
  simp only [Act.put, List.setIfInBounds_toArray, List.set_cons_zero, List.set_cons_succ]
  apply wpT_next 7 (some 29) (by kernel_rfl)
  · simp only [List.getElem?_toArray, List.getElem?_cons_succ, List.getElem?_cons_zero]; exact rfl
  · rfl
  · kernel_rfl
  · kernel_rfl
  · kernel_rfl
  · exact fun _ _ _ _ h => h
  apply Exists.intro
  apply And.intro
  · apply yr_run; rfl; intro w' hw'; go_simp; (try with_reducible rfl)
  simp only [Act.put, List.setIfInBounds_toArray, List.set_cons_zero, List.set_cons_succ]
  apply wpT_next 8 (some 30) (by kernel_rfl)
  · simp only [List.getElem?_toArray, List.getElem?_cons_succ, List.getElem?_cons_zero]; exact rfl
  · rfl
  · kernel_rfl
  · kernel_rfl
  · kernel_rfl
  · exact fun _ _ _ _ h => h
  apply Exists.intro
  apply And.intro
  · apply yr_run; rfl; intro w' hw'; go_simp; (try with_reducible rfl)
  simp only [Act.put, List.setIfInBounds_toArray, List.set_cons_zero, List.set_cons_succ]
  apply wpT_next 9 (some 31) (by kernel_rfl)
  · simp only [List.getElem?_toArray, List.getElem?_cons_succ, List.getElem?_cons_zero]; exact rfl
  · rfl
  · kernel_rfl
  · kernel_rfl
  · kernel_rfl
  · exact fun _ _ _ _ h => h
  apply Exists.intro
  apply And.intro
  · apply yr_run; rfl; intro w' hw'; go_simp; (try with_reducible rfl)
  simp only [Act.put, List.setIfInBounds_toArray, List.set_cons_zero, List.set_cons_succ]
  apply wpT_next 10 (some 32) (by kernel_rfl)
  · simp only [List.getElem?_toArray, List.getElem?_cons_succ, List.getElem?_cons_zero]; exact rfl
  · rfl
  · kernel_rfl
  · kernel_rfl
  · kernel_rfl
  · exact fun _ _ _ _ h => h
  apply Exists.intro
  apply And.intro
  · apply yr_run; rfl; intro w' hw'; go_simp; (try with_reducible rfl)
  simp only [Act.put, List.setIfInBounds_toArray, List.set_cons_zero, List.set_cons_succ]
  apply wpT_next 11 (some 33) (by kernel_rfl)
  · simp only [List.getElem?_toArray, List.getElem?_cons_succ, List.getElem?_cons_zero]; exact rfl
  · rfl
  · kernel_rfl
  · kernel_rfl
  · kernel_rfl
  · exact fun _ _ _ _ h => h
  apply Exists.intro
  apply And.intro
  · apply yr_run; rfl; intro w' hw'; go_simp; (try with_reducible rfl)
  simp only [Act.put, List.setIfInBounds_toArray, List.set_cons_zero, List.set_cons_succ]
  apply wpT_next 12 (some 34) (by kernel_rfl)
  · simp only [List.getElem?_toArray, List.getElem?_cons_succ, List.getElem?_cons_zero]; exact rfl
  · rfl
  · kernel_rfl
  · kernel_rfl
  · kernel_rfl
  · exact fun _ _ _ _ h => h
  apply Exists.intro
  apply And.intro
  · apply yr_run; rfl; intro w' hw'; go_simp; (try with_reducible rfl)
  simp only [Act.put, List.setIfInBounds_toArray, List.set_cons_zero, List.set_cons_succ]
  apply wpT_next 13 (some 35) (by kernel_rfl)
  · simp only [List.getElem?_toArray, List.getElem?_cons_succ, List.getElem?_cons_zero]; exact rfl
  · rfl
  · kernel_rfl
  · kernel_rfl
  · kernel_rfl
  · exact fun _ _ _ _ h => h
  apply Exists.intro
  apply And.intro
  · apply yr_run; rfl; intro w' hw'; go_simp; (try with_reducible rfl)
  simp only [Act.put, List.setIfInBounds_toArray, List.set_cons_zero, List.set_cons_succ]
  refine wpT_two 1 14 (by kernel_rfl) ?_ ?_
  · apply atT_run 1 (some 23)
    · simp only [List.getElem?_toArray, List.getElem?_cons_succ, List.getElem?_cons_zero]; exact rfl
    · rfl
    · rfl
    intro w' hw'
    have hx : Ext w.drew w' := hw'
    refine ⟨.slice (some ⟨w'.heap.size, 0, none⟩) 0 0, w'.alloc (.cells #[] 32), ?_, Kept.of_below (below1 _ _), ?_⟩
    · go_simp; first | done | exact rfl
    have HO1 : RowKit.Hid (Ow w.drew w.drew.heap.size 32 1 (.slice (some ⟨w'.heap.size, 0, none⟩) 0 0) 0 (rowsV slc []) (w'.alloc (.cells #[] 32))) := Lib.hid (Ow.new_ (cs := #[]) hx (Nat.le_refl _) hx.size (Nat.zero_le _) rfl)
    have HX1 : RowKit.Hid (Ext w.drew (w'.alloc (.cells #[] 32))) := Lib.hid (bel_al hx _)
    obtain ⟨V1, gV1⟩ : ∃ x, w'.alloc (.cells #[] 32) = x := ⟨_, rfl⟩
    rw [gV1] at HO1 HX1 ⊢
    clear gV1
    obtain ⟨v1, gv1⟩ : ∃ x : Value, .slice (some ⟨w'.heap.size, 0, none⟩) 0 0 = x := ⟨_, rfl⟩
    rw [gv1] at HO1
    rw [gv1]
    clear hw' hx gv1
    simp only [Act.put, List.setIfInBounds_toArray, List.set_cons_zero, List.set_cons_succ]
    refine wpT_two 6 14 (by kernel_rfl) ?_ ?_
    · apply atT_run 6 (some 28)
      · simp only [List.getElem?_toArray, List.getElem?_cons_succ, List.getElem?_cons_zero]; exact rfl
      · rfl
      · rfl
      intro w' hw'
      have hx : Ext w.drew w' := Ext.trans HX1.out hw'
      have hO := HO1.out.up hw'
      obtain ⟨A2, c2, w'', hrun, hO2, hb2, hs2⟩ := ow_app2 hO (some ⟨b, o, none⟩) n c es ((HR1.out.up hx hx.size)) (by omega)
      rw [show 0 + n = n from Nat.zero_add n, show ([] : List Sl) ++ es = es from rfl] at hO2
      rw [show 0 + n = n from Nat.zero_add n] at hrun hs2
      refine ⟨_, w'', exec_append (by rfl) (by rfl) (by rfl) hrun, (by rw [← HB0.out]; exact Kept.of_from hb2), ?_⟩
      have HO2 := Lib.hid hO2
      have HX2 : RowKit.Hid (Ext w.drew w'') := Lib.hid hO2.below
      clear hs2 hw' hx hO hrun hO2 hb2 HO1
      obtain ⟨V2, gV2⟩ : ∃ x, w'' = x := ⟨_, rfl⟩
      rw [gV2] at HO2 HX2 ⊢
      clear gV2
      simp only [Act.put, List.setIfInBounds_toArray, List.set_cons_zero, List.set_cons_succ]
      refine wpT_one 14 (by kernel_rfl) ?_
      apply atT_run 14 (some 36)
      · simp only [List.getElem?_toArray, List.getElem?_cons_succ, List.getElem?_cons_zero]; exact rfl
      · rfl
      · rfl
      intro w' hw'
      have hx : Ext w.drew w' := Ext.trans HX2.out hw'
      refine ⟨.slice (some ⟨w'.heap.size, 0, none⟩) 1 1, w'.alloc (.cells #[.slice e.1 e.2.1 e.2.2] 32), exec_buildSlice 27 32 1 #[(0, .tmp 35)] (by rfl) Try.underlying27 _ (by kernel_rfl), Kept.of_below (below1 _ _), ?_⟩
      have HLi3 : RowKit.Hid (Whole (w'.alloc (.cells #[.slice e.1 e.2.1 e.2.2] 32)) w'.heap.size 32 (rowsV slc [e])) := Lib.hid (Whole.new_ _ _ _)
      have HX3 : RowKit.Hid (Ext w.drew (w'.alloc (.cells #[.slice e.1 e.2.1 e.2.2] 32))) := Lib.hid (bel_al hx _)
      have HO3 := Lib.hid (HO2.out.up (bel_al hw' (.cells #[.slice e.1 e.2.1 e.2.2] 32)))
      have HNe3 : RowKit.Hid (some w'.heap.size ≠ _) := Lib.hid (Ow.ne_ (HO2.out.up hw') (Nat.le_refl _))
      clear HO2
      obtain ⟨V3, gV3⟩ : ∃ x, w'.alloc (.cells #[.slice e.1 e.2.1 e.2.2] 32) = x := ⟨_, rfl⟩
      rw [gV3] at HLi3 HX3 HO3 ⊢
      clear gV3
      obtain ⟨g3, gg3⟩ : ∃ x, w'.heap.size = x := ⟨_, rfl⟩
      rw [gg3] at HLi3 HNe3 ⊢
      clear hw' hx gg3
      simp only [Act.put, List.setIfInBounds_toArray, List.set_cons_zero, List.set_cons_succ]
      refine wpT_one 15 (by kernel_rfl) ?_
      apply atT_run 15 (some 37)
      · simp only [List.getElem?_toArray, List.getElem?_cons_succ, List.getElem?_cons_zero]; exact rfl
      · rfl
      · rfl
      intro w' hw'
      have hx : Ext w.drew w' := Ext.trans HX3.out hw'
      have hO := HO3.out.up hw'
      obtain ⟨A4, c4, w'', hrun, hO2, hb2, hs2⟩ := ow_app2 hO (some ⟨g3, 0, none⟩) 1 1 [e] (RdS.of_whole (HLi3.out.below hw') rfl) (by omega)
      refine ⟨_, w'', exec_append (by rfl) (by rfl) (by rfl) hrun, (by rw [← HB0.out]; exact Kept.of_from hb2), ?_⟩
      have HO4 := Lib.hid hO2
      have HX4 : RowKit.Hid (Ext w.drew w'') := Lib.hid hO2.below
      clear HLi3 HNe3
      clear hs2 hw' hx hO hrun hO2 hb2 HO3
      obtain ⟨V4, gV4⟩ : ∃ x, w'' = x := ⟨_, rfl⟩
      rw [gV4] at HO4 HX4 ⊢
      clear gV4
      simp only [Act.put, List.setIfInBounds_toArray, List.set_cons_zero, List.set_cons_succ]
      apply wpT_run 16 (some 38)
      · simp only [List.getElem?_toArray, List.getElem?_cons_succ, List.getElem?_cons_zero]; exact rfl
      · rfl
      · kernel_rfl
      · rfl
      intro w' hw'
      apply Exists.intro
      apply Exists.intro
      apply And.intro
      · go_simp; first | done | exact ⟨rfl, rfl⟩ | exact rfl
      apply And.intro
      · exact Kept.refl _ _
      have hpd16 := hw'
      clear hw'
      simp only [Act.put, List.setIfInBounds_toArray, List.set_cons_zero, List.set_cons_succ]
      apply wpT_next 17 (some 39) (by kernel_rfl)
      · simp only [List.getElem?_toArray, List.getElem?_cons_succ, List.getElem?_cons_zero]; exact rfl
      · rfl
      · kernel_rfl
      · kernel_rfl
      · kernel_rfl
      · exact fun _ _ _ _ h => h
      apply Exists.intro
      apply And.intro
      · apply yr_run; rfl; intro w' hw'; go_simp; (try with_reducible rfl)
      simp only [Act.put, List.setIfInBounds_toArray, List.set_cons_zero, List.set_cons_succ]
      apply wpT_last 18
      · simp only [List.getElem?_toArray, List.getElem?_cons_succ, List.getElem?_cons_zero]; exact rfl
      · rfl
      · kernel_rfl
      · rfl
      · decide
      intro w' hw'
      replace hw' := Ext.trans hpd16 hw'
      clear hpd16
      have hx : Ext w.drew w' := Ext.trans HX4.out hw'
      have hO := HO4.out.up hw'
      have hN := H.out.below hx
      have hcl := hN.box.cell (i := 0) rfl
      have hfr := hN.box.free 0
      refine ⟨w'.setCell ⟨y, 0, none⟩ (.slice A4 (n + 1) c4), ?_, ?_⟩
      · go_simp; first | done | exact rfl
      have HW := Lib.hid (H.out.way hO.below rfl (L' := s.1 ++ [L]) (by rw [HL.out]; exact hO.own) (hN.each.app H.out.eslen (HBy.out.below hx)))
      rw [HL.out] at HW
      obtain ⟨W5, gW5⟩ : ∃ x, w'.setCell ⟨y, 0, none⟩ (.slice A4 (n + 1) c4) = x := ⟨_, rfl⟩
      rw [gW5] at HW ⊢
      obtain ⟨A5, gA5⟩ : ∃ x, A4 = x := ⟨_, rfl⟩
      obtain ⟨c5, gc5⟩ : ∃ x, c4 = x := ⟨_, rfl⟩
      rw [gA5, gc5] at HW
      clear hw' hx hO hN hcl hfr gW5 HO4 gA5 gc5
      try simp only [Act.put, List.setIfInBounds_toArray, List.set_cons_zero, List.set_cons_succ]
      refine wpT_done (by kernel_rfl) ?_ _
      intro W6 hw6
      have hy6 := HW.out.1.below hw6
      have HY6 := Lib.hid hy6
      have HG6 : RowKit.Hid (NtGo w W6 (YtT y (some ⟨b, o, none⟩)) (YtT y A5)) := Lib.hid ((NtGo.below ((Below.refl _ _).drew)).trans (HW.out.2.trans (NtGo.below hw6)))
      clear hw6 hy6 HW ld0 ld1
      go_upto_region 6 with fail
      obtain ⟨tk_, gtk_⟩ : ∃ z, s.2.getD 5 0 = z := ⟨_, rfl⟩
      have ldk_ : ∀ w', Kept Nil_ W6.drew w' → w'.cell? ⟨y, 6, none⟩ = some (.int .i64 tk_) := fun w' hk => hk.nil_cell (HY6.out.drew.box.cell (i := 1 + 5) (gtk_ ▸ yt_cell (by rw [HS6.out]; decide)))
      have Gtk_ := Lib.hid gtk_
      have hwk_ : IntKind.i64.wrap (tk_ + 1) = tk_ + 1 := by
        have h1 := HTB.out 5
        rw [gtk_] at h1
        exact IntWalk.i64_in _ (by omega)
      clear gtk_
      refine wp_region_tail (Nil_) [9] (by kernel_rfl) ?_
      apply wpT_next 0 (some 40) (by kernel_rfl)
      · simp only [List.getElem?_toArray, List.getElem?_cons_succ, List.getElem?_cons_zero]; exact rfl
      · rfl
      · kernel_rfl
      · kernel_rfl
      · kernel_rfl
      · exact fun _ _ _ _ h => h
      apply Exists.intro
      apply And.intro
      · apply yr_run; rfl; intro w' hw'; go_simp; (try with_reducible rfl)
      simp only [Act.put, List.setIfInBounds_toArray, List.set_cons_zero, List.set_cons_succ]
      apply wpT_next 1 (some 41) (by kernel_rfl)
      · simp only [List.getElem?_toArray, List.getElem?_cons_succ, List.getElem?_cons_zero]; exact rfl
      · rfl
      · kernel_rfl
      · kernel_rfl
      · kernel_rfl
      · exact fun _ _ _ _ h => h
      apply Exists.intro
      apply And.intro
      · apply yr_run; rfl; intro w' hw'; go_simp; (try with_reducible rfl)
      simp only [Act.put, List.setIfInBounds_toArray, List.set_cons_zero, List.set_cons_succ]
      apply wpT_next 2 (some 42) (by kernel_rfl)
      · simp only [List.getElem?_toArray, List.getElem?_cons_succ, List.getElem?_cons_zero]; exact rfl
      · rfl
      · kernel_rfl
      · kernel_rfl
      · kernel_rfl
      · exact fun _ _ _ _ h => h
      apply Exists.intro
      apply And.intro
      · apply yr_run; rfl; intro w' hw'; go_simp; (try with_reducible rfl)
      simp only [Act.put, List.setIfInBounds_toArray, List.set_cons_zero, List.set_cons_succ]
      apply wpT_next 3 (some 43) (by kernel_rfl)
      · simp only [List.getElem?_toArray, List.getElem?_cons_succ, List.getElem?_cons_zero]; exact rfl
      · rfl
      · kernel_rfl
      · kernel_rfl
      · kernel_rfl
      · exact fun _ _ _ _ h => h
      apply Exists.intro
      apply And.intro
      · apply yr_run; rfl; intro w' hw'; go_simp; (try with_reducible rfl)
      simp only [Act.put, List.setIfInBounds_toArray, List.set_cons_zero, List.set_cons_succ]
      apply wpT_next 4 (some 44) (by kernel_rfl)
      · simp only [List.getElem?_toArray, List.getElem?_cons_succ, List.getElem?_cons_zero]; exact rfl
      · rfl
      · kernel_rfl
      · kernel_rfl
      · kernel_rfl
      · exact fun _ _ _ _ h => h
      apply Exists.intro
      apply And.intro
      · apply yr_run; rfl; intro w' hw'; go_simp; (try with_reducible rfl)
      simp only [Act.put, List.setIfInBounds_toArray, List.set_cons_zero, List.set_cons_succ]
      apply wpT_next 5 (some 45) (by kernel_rfl)
      · simp only [List.getElem?_toArray, List.getElem?_cons_succ, List.getElem?_cons_zero]; exact rfl
      · rfl
      · kernel_rfl
      · kernel_rfl
      · kernel_rfl
      · exact fun _ _ _ _ h => h
      apply Exists.intro
      apply And.intro
      · apply yr_run; rfl; intro w' hw'; go_simp; (try with_reducible rfl)
      simp only [Act.put, List.setIfInBounds_toArray, List.set_cons_zero, List.set_cons_succ]
      apply wpT_run 6 (some 46)
      · simp only [List.getElem?_toArray, List.getElem?_cons_succ, List.getElem?_cons_zero]; exact rfl
      · rfl
      · kernel_rfl
      · rfl
      intro w' hw'
      apply Exists.intro
      apply Exists.intro
      apply And.intro
      · go_simp; first | done | exact ⟨rfl, rfl⟩ | exact rfl
      apply And.intro
      · exact Kept.refl _ _
      have hpd6 := hw'
      clear hw'
      simp only [Act.put, List.setIfInBounds_toArray, List.set_cons_zero, List.set_cons_succ]
      apply wpT_run 7 (some 47)
      · simp only [List.getElem?_toArray, List.getElem?_cons_succ, List.getElem?_cons_zero]; exact rfl
      · rfl
      · kernel_rfl
      · rfl
      intro w' hw'
      replace hw' := Ext.trans hpd6 hw'
      apply Exists.intro
      apply Exists.intro
      apply And.intro
      · go_simp; first | done | exact ⟨rfl, rfl⟩ | exact rfl
      apply And.intro
      · exact Kept.refl _ _
      have hpd7 := hw'
      clear hw'
      simp only [Act.put, List.setIfInBounds_toArray, List.set_cons_zero, List.set_cons_succ]
      apply wpT_next 8 (some 48) (by kernel_rfl)
      · simp only [List.getElem?_toArray, List.getElem?_cons_succ, List.getElem?_cons_zero]; exact rfl
      · rfl
      · kernel_rfl
      · kernel_rfl
      · kernel_rfl
      · exact fun _ _ _ _ h => h
      apply Exists.intro
      apply And.intro
      · apply yr_run; rfl; intro w' hw'; go_simp; (try with_reducible rfl)
      simp only [Act.put, List.setIfInBounds_toArray, List.set_cons_zero, List.set_cons_succ]
      apply wpT_last 9
      · simp only [List.getElem?_toArray, List.getElem?_cons_succ, List.getElem?_cons_zero]; exact rfl
      · rfl
      · kernel_rfl
      · rfl
      · decide
      intro w' hw'
      replace hw' := Ext.trans hpd7 hw'
      clear hpd7
      have hN := HY6.out.drew.below hw'
      have hcl := hN.box.cell (i := 1 + 5) (yt_cell (by rw [HS6.out]; decide))
      have hfr := hN.box.free (1 + 5)
      refine ⟨w'.setCell ⟨y, 6, none⟩ (.int .i64 (tk_ + 1)), ?_, ?_⟩
      · go_simp; first | done | exact rfl
      have HWk := Lib.hid (hN.bump 5 (tk_ + 1) (by rw [Gtk_.out]) rfl)
      have HGk := Lib.hid ((NtGo.below (S := YtT y A5) (Below.drew (Below.refl _ _))).trans ((NtGo.below hw').trans HWk.out.2))
      obtain ⟨W5, gW5⟩ : ∃ x, w'.setCell ⟨y, 6, none⟩ (.int .i64 (tk_ + 1)) = x := ⟨_, rfl⟩
      rw [show (⟨y, 1 + 5, none⟩ : Addr) = ⟨y, 6, none⟩ from rfl, gW5] at HWk HGk
      rw [gW5]
      clear hw' hN hcl hfr gW5
      try simp only [Act.put, List.setIfInBounds_toArray, List.set_cons_zero, List.set_cons_succ]
      refine wpT_done (by kernel_rfl) ?_ _
      intro W7 hw6
      have HY7 := Lib.hid (HWk.out.1.below hw6)
      have HG7 := Lib.hid (HGk.out.trans (NtGo.below hw6))
      clear hw6 HWk HGk ldk_ hwk_ Gtk_
      go_wp2
      go_ret
      exact ⟨rfl, A5, c5, es ++ [e], by rw [HD.out]; exact HY7.out, HG6.out.trans HG7.out⟩
    · apply atT_run 14 (some 36)
      · simp only [List.getElem?_toArray, List.getElem?_cons_succ, List.getElem?_cons_zero]; exact rfl
      · rfl
      · rfl
      intro w' hw'
      have hx : Ext w.drew w' := Ext.trans HX1.out hw'
      refine ⟨.slice (some ⟨w'.heap.size, 0, none⟩) 1 1, w'.alloc (.cells #[.slice e.1 e.2.1 e.2.2] 32), exec_buildSlice 27 32 1 #[(0, .tmp 35)] (by rfl) Try.underlying27 _ (by kernel_rfl), Kept.of_below (below1 _ _), ?_⟩
      have HLi6 : RowKit.Hid (Whole (w'.alloc (.cells #[.slice e.1 e.2.1 e.2.2] 32)) w'.heap.size 32 (rowsV slc [e])) := Lib.hid (Whole.new_ _ _ _)
      have HX6 : RowKit.Hid (Ext w.drew (w'.alloc (.cells #[.slice e.1 e.2.1 e.2.2] 32))) := Lib.hid (bel_al hx _)
      have HO6 := Lib.hid (HO1.out.up (bel_al hw' (.cells #[.slice e.1 e.2.1 e.2.2] 32)))
      have HNe6 : RowKit.Hid (some w'.heap.size ≠ _) := Lib.hid (Ow.ne_ (HO1.out.up hw') (Nat.le_refl _))
      clear HO1
      obtain ⟨V6, gV6⟩ : ∃ x, w'.alloc (.cells #[.slice e.1 e.2.1 e.2.2] 32) = x := ⟨_, rfl⟩
      rw [gV6] at HLi6 HX6 HO6 ⊢
      clear gV6
      obtain ⟨g6, gg6⟩ : ∃ x, w'.heap.size = x := ⟨_, rfl⟩
      rw [gg6] at HLi6 HNe6 ⊢
      clear hw' hx gg6
      simp only [Act.put, List.setIfInBounds_toArray, List.set_cons_zero, List.set_cons_succ]
      refine wpT_one 6 (by kernel_rfl) ?_
      apply atT_run 6 (some 28)
      · simp only [List.getElem?_toArray, List.getElem?_cons_succ, List.getElem?_cons_zero]; exact rfl
      · rfl
      · rfl
      intro w' hw'
      have hx : Ext w.drew w' := Ext.trans HX6.out hw'
      have hO := HO6.out.up hw'
      obtain ⟨A7, c7, w'', hrun, hO2, hb2, hs2⟩ := ow_app2 hO (some ⟨b, o, none⟩) n c es ((HR1.out.up hx hx.size)) (by omega)
      rw [show 0 + n = n from Nat.zero_add n, show ([] : List Sl) ++ es = es from rfl] at hO2
      rw [show 0 + n = n from Nat.zero_add n] at hrun hs2
      refine ⟨_, w'', exec_append (by rfl) (by rfl) (by rfl) hrun, (by rw [← HB0.out]; exact Kept.of_from hb2), ?_⟩
      have HO7 := Lib.hid hO2
      have HX7 : RowKit.Hid (Ext w.drew w'') := Lib.hid hO2.below
      have hl := HLi6.out.below hw'
      obtain ⟨hs3, hs4⟩ := hs2 _ hl.lt HNe6.out
      have HLi7 := Lib.hid (hl.at_ hs3)
      have HNe7 := Lib.hid hs4
      clear hl hs3 hs4 HLi6 HNe6
      clear hs2 hw' hx hO hrun hO2 hb2 HO6
      obtain ⟨V7, gV7⟩ : ∃ x, w'' = x := ⟨_, rfl⟩
      rw [gV7] at HO7 HX7 HLi7 ⊢
      clear gV7
      simp only [Act.put, List.setIfInBounds_toArray, List.set_cons_zero, List.set_cons_succ]
      refine wpT_one 15 (by kernel_rfl) ?_
      apply atT_run 15 (some 37)
      · simp only [List.getElem?_toArray, List.getElem?_cons_succ, List.getElem?_cons_zero]; exact rfl
      · rfl
      · rfl
      intro w' hw'
      have hx : Ext w.drew w' := Ext.trans HX7.out hw'
      have hO := HO7.out.up hw'
      obtain ⟨A8, c8, w'', hrun, hO2, hb2, hs2⟩ := ow_app2 hO (some ⟨g6, 0, none⟩) 1 1 [e] (RdS.of_whole (HLi7.out.below hw') rfl) (by omega)
      refine ⟨_, w'', exec_append (by rfl) (by rfl) (by rfl) hrun, (by rw [← HB0.out]; exact Kept.of_from hb2), ?_⟩
      have HO8 := Lib.hid hO2
      have HX8 : RowKit.Hid (Ext w.drew w'') := Lib.hid hO2.below
      clear HLi7 HNe7
      clear hs2 hw' hx hO hrun hO2 hb2 HO7
      obtain ⟨V8, gV8⟩ : ∃ x, w'' = x := ⟨_, rfl⟩
      rw [gV8] at HO8 HX8 ⊢
      clear gV8
      simp only [Act.put, List.setIfInBounds_toArray, List.set_cons_zero, List.set_cons_succ]
      apply wpT_run 16 (some 38)
      · simp only [List.getElem?_toArray, List.getElem?_cons_succ, List.getElem?_cons_zero]; exact rfl
      · rfl
      · kernel_rfl
      · rfl
      intro w' hw'
      apply Exists.intro
      apply Exists.intro
      apply And.intro
      · go_simp; first | done | exact ⟨rfl, rfl⟩ | exact rfl
      apply And.intro
      · exact Kept.refl _ _
      have hpd16 := hw'
      clear hw'
      simp only [Act.put, List.setIfInBounds_toArray, List.set_cons_zero, List.set_cons_succ]
      apply wpT_next 17 (some 39) (by kernel_rfl)
      · simp only [List.getElem?_toArray, List.getElem?_cons_succ, List.getElem?_cons_zero]; exact rfl
      · rfl
      · kernel_rfl
      · kernel_rfl
      · kernel_rfl
      · exact fun _ _ _ _ h => h
      apply Exists.intro
      apply And.intro
      · apply yr_run; rfl; intro w' hw'; go_simp; (try with_reducible rfl)
      simp only [Act.put, List.setIfInBounds_toArray, List.set_cons_zero, List.set_cons_succ]
      apply wpT_last 18
      · simp only [List.getElem?_toArray, List.getElem?_cons_succ, List.getElem?_cons_zero]; exact rfl
      · rfl
      · kernel_rfl
      · rfl
      · decide
      intro w' hw'
      replace hw' := Ext.trans hpd16 hw'
      clear hpd16
      have hx : Ext w.drew w' := Ext.trans HX8.out hw'
      have hO := HO8.out.up hw'
      have hN := H.out.below hx
      have hcl := hN.box.cell (i := 0) rfl
      have hfr := hN.box.free 0
      refine ⟨w'.setCell ⟨y, 0, none⟩ (.slice A8 (n + 1) c8), ?_, ?_⟩
      · go_simp; first | done | exact rfl
      have HW := Lib.hid (H.out.way hO.below rfl (L' := s.1 ++ [L]) (by rw [HL.out]; exact hO.own) (hN.each.app H.out.eslen (HBy.out.below hx)))
      rw [HL.out] at HW
      obtain ⟨W5, gW5⟩ : ∃ x, w'.setCell ⟨y, 0, none⟩ (.slice A8 (n + 1) c8) = x := ⟨_, rfl⟩
      rw [gW5] at HW ⊢
      obtain ⟨A5, gA5⟩ : ∃ x, A8 = x := ⟨_, rfl⟩
      obtain ⟨c5, gc5⟩ : ∃ x, c8 = x := ⟨_, rfl⟩
      rw [gA5, gc5] at HW
      clear hw' hx hO hN hcl hfr gW5 HO8 gA5 gc5
      try simp only [Act.put, List.setIfInBounds_toArray, List.set_cons_zero, List.set_cons_succ]
      refine wpT_done (by kernel_rfl) ?_ _
      intro W6 hw6
      have hy6 := HW.out.1.below hw6
      have HY6 := Lib.hid hy6
      have HG6 : RowKit.Hid (NtGo w W6 (YtT y (some ⟨b, o, none⟩)) (YtT y A5)) := Lib.hid ((NtGo.below ((Below.refl _ _).drew)).trans (HW.out.2.trans (NtGo.below hw6)))
      clear hw6 hy6 HW ld0 ld1
      go_upto_region 6 with fail
      obtain ⟨tk_, gtk_⟩ : ∃ z, s.2.getD 5 0 = z := ⟨_, rfl⟩
      have ldk_ : ∀ w', Kept Nil_ W6.drew w' → w'.cell? ⟨y, 6, none⟩ = some (.int .i64 tk_) := fun w' hk => hk.nil_cell (HY6.out.drew.box.cell (i := 1 + 5) (gtk_ ▸ yt_cell (by rw [HS6.out]; decide)))
      have Gtk_ := Lib.hid gtk_
      have hwk_ : IntKind.i64.wrap (tk_ + 1) = tk_ + 1 := by
        have h1 := HTB.out 5
        rw [gtk_] at h1
        exact IntWalk.i64_in _ (by omega)
      clear gtk_
      refine wp_region_tail (Nil_) [9] (by kernel_rfl) ?_
      apply wpT_next 0 (some 40) (by kernel_rfl)
      · simp only [List.getElem?_toArray, List.getElem?_cons_succ, List.getElem?_cons_zero]; exact rfl
      · rfl
      · kernel_rfl
      · kernel_rfl
      · kernel_rfl
      · exact fun _ _ _ _ h => h
      apply Exists.intro
      apply And.intro
      · apply yr_run; rfl; intro w' hw'; go_simp; (try with_reducible rfl)
      simp only [Act.put, List.setIfInBounds_toArray, List.set_cons_zero, List.set_cons_succ]
      apply wpT_next 1 (some 41) (by kernel_rfl)
      · simp only [List.getElem?_toArray, List.getElem?_cons_succ, List.getElem?_cons_zero]; exact rfl
      · rfl
      · kernel_rfl
      · kernel_rfl
      · kernel_rfl
      · exact fun _ _ _ _ h => h
      apply Exists.intro
      apply And.intro
      · apply yr_run; rfl; intro w' hw'; go_simp; (try with_reducible rfl)
      simp only [Act.put, List.setIfInBounds_toArray, List.set_cons_zero, List.set_cons_succ]
      apply wpT_next 2 (some 42) (by kernel_rfl)
      · simp only [List.getElem?_toArray, List.getElem?_cons_succ, List.getElem?_cons_zero]; exact rfl
      · rfl
      · kernel_rfl
      · kernel_rfl
      · kernel_rfl
      · exact fun _ _ _ _ h => h
      apply Exists.intro
      apply And.intro
      · apply yr_run; rfl; intro w' hw'; go_simp; (try with_reducible rfl)
      simp only [Act.put, List.setIfInBounds_toArray, List.set_cons_zero, List.set_cons_succ]
      apply wpT_next 3 (some 43) (by kernel_rfl)
      · simp only [List.getElem?_toArray, List.getElem?_cons_succ, List.getElem?_cons_zero]; exact rfl
      · rfl
      · kernel_rfl
      · kernel_rfl
      · kernel_rfl
      · exact fun _ _ _ _ h => h
      apply Exists.intro
      apply And.intro
      · apply yr_run; rfl; intro w' hw'; go_simp; (try with_reducible rfl)
      simp only [Act.put, List.setIfInBounds_toArray, List.set_cons_zero, List.set_cons_succ]
      apply wpT_next 4 (some 44) (by kernel_rfl)
      · simp only [List.getElem?_toArray, List.getElem?_cons_succ, List.getElem?_cons_zero]; exact rfl
      · rfl
      · kernel_rfl
      · kernel_rfl
      · kernel_rfl
      · exact fun _ _ _ _ h => h
      apply Exists.intro
      apply And.intro
      · apply yr_run; rfl; intro w' hw'; go_simp; (try with_reducible rfl)
      simp only [Act.put, List.setIfInBounds_toArray, List.set_cons_zero, List.set_cons_succ]
      apply wpT_next 5 (some 45) (by kernel_rfl)
      · simp only [List.getElem?_toArray, List.getElem?_cons_succ, List.getElem?_cons_zero]; exact rfl
      · rfl
      · kernel_rfl
      · kernel_rfl
      · kernel_rfl
      · exact fun _ _ _ _ h => h
      apply Exists.intro
      apply And.intro
      · apply yr_run; rfl; intro w' hw'; go_simp; (try with_reducible rfl)
      simp only [Act.put, List.setIfInBounds_toArray, List.set_cons_zero, List.set_cons_succ]
      apply wpT_run 6 (some 46)
      · simp only [List.getElem?_toArray, List.getElem?_cons_succ, List.getElem?_cons_zero]; exact rfl
      · rfl
      · kernel_rfl
      · rfl
      intro w' hw'
      apply Exists.intro
      apply Exists.intro
      apply And.intro
      · go_simp; first | done | exact ⟨rfl, rfl⟩ | exact rfl
      apply And.intro
      · exact Kept.refl _ _
      have hpd6 := hw'
      clear hw'
      simp only [Act.put, List.setIfInBounds_toArray, List.set_cons_zero, List.set_cons_succ]
      apply wpT_run 7 (some 47)
      · simp only [List.getElem?_toArray, List.getElem?_cons_succ, List.getElem?_cons_zero]; exact rfl
      · rfl
      · kernel_rfl
      · rfl
      intro w' hw'
      replace hw' := Ext.trans hpd6 hw'
      apply Exists.intro
      apply Exists.intro
      apply And.intro
      · go_simp; first | done | exact ⟨rfl, rfl⟩ | exact rfl
      apply And.intro
      · exact Kept.refl _ _
      have hpd7 := hw'
      clear hw'
      simp only [Act.put, List.setIfInBounds_toArray, List.set_cons_zero, List.set_cons_succ]
      apply wpT_next 8 (some 48) (by kernel_rfl)
      · simp only [List.getElem?_toArray, List.getElem?_cons_succ, List.getElem?_cons_zero]; exact rfl
      · rfl
      · kernel_rfl
      · kernel_rfl
      · kernel_rfl
      · exact fun _ _ _ _ h => h
      apply Exists.intro
      apply And.intro
      · apply yr_run; rfl; intro w' hw'; go_simp; (try with_reducible rfl)
      simp only [Act.put, List.setIfInBounds_toArray, List.set_cons_zero, List.set_cons_succ]
      apply wpT_last 9
      · simp only [List.getElem?_toArray, List.getElem?_cons_succ, List.getElem?_cons_zero]; exact rfl
      · rfl
      · kernel_rfl
      · rfl
      · decide
      intro w' hw'
      replace hw' := Ext.trans hpd7 hw'
      clear hpd7
      have hN := HY6.out.drew.below hw'
      have hcl := hN.box.cell (i := 1 + 5) (yt_cell (by rw [HS6.out]; decide))
      have hfr := hN.box.free (1 + 5)
      refine ⟨w'.setCell ⟨y, 6, none⟩ (.int .i64 (tk_ + 1)), ?_, ?_⟩
      · go_simp; first | done | exact rfl
      have HWk := Lib.hid (hN.bump 5 (tk_ + 1) (by rw [Gtk_.out]) rfl)
      have HGk := Lib.hid ((NtGo.below (S := YtT y A5) (Below.drew (Below.refl _ _))).trans ((NtGo.below hw').trans HWk.out.2))
      obtain ⟨W5, gW5⟩ : ∃ x, w'.setCell ⟨y, 6, none⟩ (.int .i64 (tk_ + 1)) = x := ⟨_, rfl⟩
      rw [show (⟨y, 1 + 5, none⟩ : Addr) = ⟨y, 6, none⟩ from rfl, gW5] at HWk HGk
      rw [gW5]
      clear hw' hN hcl hfr gW5
      try simp only [Act.put, List.setIfInBounds_toArray, List.set_cons_zero, List.set_cons_succ]
      refine wpT_done (by kernel_rfl) ?_ _
      intro W7 hw6
      have HY7 := Lib.hid (HWk.out.1.below hw6)
      have HG7 := Lib.hid (HGk.out.trans (NtGo.below hw6))
      clear hw6 HWk HGk ldk_ hwk_ Gtk_
      go_wp2
      go_ret
      exact ⟨rfl, A5, c5, es ++ [e], by rw [HD.out]; exact HY7.out, HG6.out.trans HG7.out⟩
  · apply atT_run 14 (some 36)
    · simp only [List.getElem?_toArray, List.getElem?_cons_succ, List.getElem?_cons_zero]; exact rfl
    · rfl
    · rfl
    intro w' hw'
    have hx : Ext w.drew w' := hw'
    refine ⟨.slice (some ⟨w'.heap.size, 0, none⟩) 1 1, w'.alloc (.cells #[.slice e.1 e.2.1 e.2.2] 32), exec_buildSlice 27 32 1 #[(0, .tmp 35)] (by rfl) Try.underlying27 _ (by kernel_rfl), Kept.of_below (below1 _ _), ?_⟩
    have HLi10 : RowKit.Hid (Whole (w'.alloc (.cells #[.slice e.1 e.2.1 e.2.2] 32)) w'.heap.size 32 (rowsV slc [e])) := Lib.hid (Whole.new_ _ _ _)
    have HX10 : RowKit.Hid (Ext w.drew (w'.alloc (.cells #[.slice e.1 e.2.1 e.2.2] 32))) := Lib.hid (bel_al hx _)
    obtain ⟨V10, gV10⟩ : ∃ x, w'.alloc (.cells #[.slice e.1 e.2.1 e.2.2] 32) = x := ⟨_, rfl⟩
    rw [gV10] at HLi10 HX10 ⊢
    clear gV10
    obtain ⟨g10, gg10⟩ : ∃ x, w'.heap.size = x := ⟨_, rfl⟩
    rw [gg10] at HLi10 ⊢
    clear hw' hx gg10
    simp only [Act.put, List.setIfInBounds_toArray, List.set_cons_zero, List.set_cons_succ]
    refine wpT_one 1 (by kernel_rfl) ?_
    apply atT_run 1 (some 23)
    · simp only [List.getElem?_toArray, List.getElem?_cons_succ, List.getElem?_cons_zero]; exact rfl
    · rfl
    · rfl
    intro w' hw'
    have hx : Ext w.drew w' := Ext.trans HX10.out hw'
    refine ⟨.slice (some ⟨w'.heap.size, 0, none⟩) 0 0, w'.alloc (.cells #[] 32), ?_, Kept.of_below (below1 _ _), ?_⟩
    · go_simp; first | done | exact rfl
    have HO11 : RowKit.Hid (Ow w.drew w.drew.heap.size 32 1 (.slice (some ⟨w'.heap.size, 0, none⟩) 0 0) 0 (rowsV slc []) (w'.alloc (.cells #[] 32))) := Lib.hid (Ow.new_ (cs := #[]) hx (Nat.le_refl _) hx.size (Nat.zero_le _) rfl)
    have HX11 : RowKit.Hid (Ext w.drew (w'.alloc (.cells #[] 32))) := Lib.hid (bel_al hx _)
    have hl := HLi10.out.below hw'
    have HLi11 := Lib.hid (hl.al (.cells #[] 32))
    have HNe11 : RowKit.Hid (some g10 ≠ (Value.slice (some ⟨w'.heap.size, 0, none⟩) 0 0).ownBlock) := Lib.hid (fun e => by have h1 := Option.some.inj e; have h2 := hl.lt; have h3 : g10 = w'.heap.size := h1; omega)
    clear hl HLi10
    obtain ⟨V11, gV11⟩ : ∃ x, w'.alloc (.cells #[] 32) = x := ⟨_, rfl⟩
    rw [gV11] at HO11 HX11 HLi11 ⊢
    clear gV11
    obtain ⟨v11, gv11⟩ : ∃ x : Value, .slice (some ⟨w'.heap.size, 0, none⟩) 0 0 = x := ⟨_, rfl⟩
    rw [gv11] at HO11 HNe11
    rw [gv11]
    clear hw' hx gv11
    simp only [Act.put, List.setIfInBounds_toArray, List.set_cons_zero, List.set_cons_succ]
    refine wpT_one 6 (by kernel_rfl) ?_
    apply atT_run 6 (some 28)
    · simp only [List.getElem?_toArray, List.getElem?_cons_succ, List.getElem?_cons_zero]; exact rfl
    · rfl
    · rfl
    intro w' hw'
    have hx : Ext w.drew w' := Ext.trans HX11.out hw'
    have hO := HO11.out.up hw'
    obtain ⟨A12, c12, w'', hrun, hO2, hb2, hs2⟩ := ow_app2 hO (some ⟨b, o, none⟩) n c es ((HR1.out.up hx hx.size)) (by omega)
    rw [show 0 + n = n from Nat.zero_add n, show ([] : List Sl) ++ es = es from rfl] at hO2
    rw [show 0 + n = n from Nat.zero_add n] at hrun hs2
    refine ⟨_, w'', exec_append (by rfl) (by rfl) (by rfl) hrun, (by rw [← HB0.out]; exact Kept.of_from hb2), ?_⟩
    have HO12 := Lib.hid hO2
    have HX12 : RowKit.Hid (Ext w.drew w'') := Lib.hid hO2.below
    have hl := HLi11.out.below hw'
    obtain ⟨hs3, hs4⟩ := hs2 _ hl.lt HNe11.out
    have HLi12 := Lib.hid (hl.at_ hs3)
    have HNe12 := Lib.hid hs4
    clear hl hs3 hs4 HLi11 HNe11
    clear hs2 hw' hx hO hrun hO2 hb2 HO11
    obtain ⟨V12, gV12⟩ : ∃ x, w'' = x := ⟨_, rfl⟩
    rw [gV12] at HO12 HX12 HLi12 ⊢
    clear gV12
    simp only [Act.put, List.setIfInBounds_toArray, List.set_cons_zero, List.set_cons_succ]
    refine wpT_one 15 (by kernel_rfl) ?_
    apply atT_run 15 (some 37)
    · simp only [List.getElem?_toArray, List.getElem?_cons_succ, List.getElem?_cons_zero]; exact rfl
    · rfl
    · rfl
    intro w' hw'
    have hx : Ext w.drew w' := Ext.trans HX12.out hw'
    have hO := HO12.out.up hw'
    obtain ⟨A13, c13, w'', hrun, hO2, hb2, hs2⟩ := ow_app2 hO (some ⟨g10, 0, none⟩) 1 1 [e] (RdS.of_whole (HLi12.out.below hw') rfl) (by omega)
    refine ⟨_, w'', exec_append (by rfl) (by rfl) (by rfl) hrun, (by rw [← HB0.out]; exact Kept.of_from hb2), ?_⟩
    have HO13 := Lib.hid hO2
    have HX13 : RowKit.Hid (Ext w.drew w'') := Lib.hid hO2.below
    clear HLi12 HNe12
    clear hs2 hw' hx hO hrun hO2 hb2 HO12
    obtain ⟨V13, gV13⟩ : ∃ x, w'' = x := ⟨_, rfl⟩
    rw [gV13] at HO13 HX13 ⊢
    clear gV13
    simp only [Act.put, List.setIfInBounds_toArray, List.set_cons_zero, List.set_cons_succ]
    apply wpT_run 16 (some 38)
    · simp only [List.getElem?_toArray, List.getElem?_cons_succ, List.getElem?_cons_zero]; exact rfl
    · rfl
    · kernel_rfl
    · rfl
    intro w' hw'
    apply Exists.intro
    apply Exists.intro
    apply And.intro
    · go_simp; first | done | exact ⟨rfl, rfl⟩ | exact rfl
    apply And.intro
    · exact Kept.refl _ _
    have hpd16 := hw'
    clear hw'
    simp only [Act.put, List.setIfInBounds_toArray, List.set_cons_zero, List.set_cons_succ]
    apply wpT_next 17 (some 39) (by kernel_rfl)
    · simp only [List.getElem?_toArray, List.getElem?_cons_succ, List.getElem?_cons_zero]; exact rfl
    · rfl
    · kernel_rfl
    · kernel_rfl
    · kernel_rfl
    · exact fun _ _ _ _ h => h
    apply Exists.intro
    apply And.intro
    · apply yr_run; rfl; intro w' hw'; go_simp; (try with_reducible rfl)
    simp only [Act.put, List.setIfInBounds_toArray, List.set_cons_zero, List.set_cons_succ]
    apply wpT_last 18
    · simp only [List.getElem?_toArray, List.getElem?_cons_succ, List.getElem?_cons_zero]; exact rfl
    · rfl
    · kernel_rfl
    · rfl
    · decide
    intro w' hw'
    replace hw' := Ext.trans hpd16 hw'
    clear hpd16
    have hx : Ext w.drew w' := Ext.trans HX13.out hw'
    have hO := HO13.out.up hw'
    have hN := H.out.below hx
    have hcl := hN.box.cell (i := 0) rfl
    have hfr := hN.box.free 0
    refine ⟨w'.setCell ⟨y, 0, none⟩ (.slice A13 (n + 1) c13), ?_, ?_⟩
    · go_simp; first | done | exact rfl
    have HW := Lib.hid (H.out.way hO.below rfl (L' := s.1 ++ [L]) (by rw [HL.out]; exact hO.own) (hN.each.app H.out.eslen (HBy.out.below hx)))
    rw [HL.out] at HW
    obtain ⟨W5, gW5⟩ : ∃ x, w'.setCell ⟨y, 0, none⟩ (.slice A13 (n + 1) c13) = x := ⟨_, rfl⟩
    rw [gW5] at HW ⊢
    obtain ⟨A5, gA5⟩ : ∃ x, A13 = x := ⟨_, rfl⟩
    obtain ⟨c5, gc5⟩ : ∃ x, c13 = x := ⟨_, rfl⟩
    rw [gA5, gc5] at HW
    clear hw' hx hO hN hcl hfr gW5 HO13 gA5 gc5
    try simp only [Act.put, List.setIfInBounds_toArray, List.set_cons_zero, List.set_cons_succ]
    refine wpT_done (by kernel_rfl) ?_ _
    intro W6 hw6
    have hy6 := HW.out.1.below hw6
    have HY6 := Lib.hid hy6
    have HG6 : RowKit.Hid (NtGo w W6 (YtT y (some ⟨b, o, none⟩)) (YtT y A5)) := Lib.hid ((NtGo.below ((Below.refl _ _).drew)).trans (HW.out.2.trans (NtGo.below hw6)))
    clear hw6 hy6 HW ld0 ld1
    go_upto_region 6 with fail
    obtain ⟨tk_, gtk_⟩ : ∃ z, s.2.getD 5 0 = z := ⟨_, rfl⟩
    have ldk_ : ∀ w', Kept Nil_ W6.drew w' → w'.cell? ⟨y, 6, none⟩ = some (.int .i64 tk_) := fun w' hk => hk.nil_cell (HY6.out.drew.box.cell (i := 1 + 5) (gtk_ ▸ yt_cell (by rw [HS6.out]; decide)))
    have Gtk_ := Lib.hid gtk_
    have hwk_ : IntKind.i64.wrap (tk_ + 1) = tk_ + 1 := by
      have h1 := HTB.out 5
      rw [gtk_] at h1
      exact IntWalk.i64_in _ (by omega)
    clear gtk_
    refine wp_region_tail (Nil_) [9] (by kernel_rfl) ?_
    apply wpT_next 0 (some 40) (by kernel_rfl)
    · simp only [List.getElem?_toArray, List.getElem?_cons_succ, List.getElem?_cons_zero]; exact rfl
    · rfl
    · kernel_rfl
    · kernel_rfl
    · kernel_rfl
    · exact fun _ _ _ _ h => h
    apply Exists.intro
    apply And.intro
    · apply yr_run; rfl; intro w' hw'; go_simp; (try with_reducible rfl)
    simp only [Act.put, List.setIfInBounds_toArray, List.set_cons_zero, List.set_cons_succ]
    apply wpT_next 1 (some 41) (by kernel_rfl)
    · simp only [List.getElem?_toArray, List.getElem?_cons_succ, List.getElem?_cons_zero]; exact rfl
    · rfl
    · kernel_rfl
    · kernel_rfl
    · kernel_rfl
    · exact fun _ _ _ _ h => h
    apply Exists.intro
    apply And.intro
    · apply yr_run; rfl; intro w' hw'; go_simp; (try with_reducible rfl)
    simp only [Act.put, List.setIfInBounds_toArray, List.set_cons_zero, List.set_cons_succ]
    apply wpT_next 2 (some 42) (by kernel_rfl)
    · simp only [List.getElem?_toArray, List.getElem?_cons_succ, List.getElem?_cons_zero]; exact rfl
    · rfl
    · kernel_rfl
    · kernel_rfl
    · kernel_rfl
    · exact fun _ _ _ _ h => h
    apply Exists.intro
    apply And.intro
    · apply yr_run; rfl; intro w' hw'; go_simp; (try with_reducible rfl)
    simp only [Act.put, List.setIfInBounds_toArray, List.set_cons_zero, List.set_cons_succ]
    apply wpT_next 3 (some 43) (by kernel_rfl)
    · simp only [List.getElem?_toArray, List.getElem?_cons_succ, List.getElem?_cons_zero]; exact rfl
    · rfl
    · kernel_rfl
    · kernel_rfl
    · kernel_rfl
    · exact fun _ _ _ _ h => h
    apply Exists.intro
    apply And.intro
    · apply yr_run; rfl; intro w' hw'; go_simp; (try with_reducible rfl)
    simp only [Act.put, List.setIfInBounds_toArray, List.set_cons_zero, List.set_cons_succ]
    apply wpT_next 4 (some 44) (by kernel_rfl)
    · simp only [List.getElem?_toArray, List.getElem?_cons_succ, List.getElem?_cons_zero]; exact rfl
    · rfl
    · kernel_rfl
    · kernel_rfl
    · kernel_rfl
    · exact fun _ _ _ _ h => h
    apply Exists.intro
    apply And.intro
    · apply yr_run; rfl; intro w' hw'; go_simp; (try with_reducible rfl)
    simp only [Act.put, List.setIfInBounds_toArray, List.set_cons_zero, List.set_cons_succ]
    apply wpT_next 5 (some 45) (by kernel_rfl)
    · simp only [List.getElem?_toArray, List.getElem?_cons_succ, List.getElem?_cons_zero]; exact rfl
    · rfl
    · kernel_rfl
    · kernel_rfl
    · kernel_rfl
    · exact fun _ _ _ _ h => h
    apply Exists.intro
    apply And.intro
    · apply yr_run; rfl; intro w' hw'; go_simp; (try with_reducible rfl)
    simp only [Act.put, List.setIfInBounds_toArray, List.set_cons_zero, List.set_cons_succ]
    apply wpT_run 6 (some 46)
    · simp only [List.getElem?_toArray, List.getElem?_cons_succ, List.getElem?_cons_zero]; exact rfl
    · rfl
    · kernel_rfl
    · rfl
    intro w' hw'
    apply Exists.intro
    apply Exists.intro
    apply And.intro
    · go_simp; first | done | exact ⟨rfl, rfl⟩ | exact rfl
    apply And.intro
    · exact Kept.refl _ _
    have hpd6 := hw'
    clear hw'
    simp only [Act.put, List.setIfInBounds_toArray, List.set_cons_zero, List.set_cons_succ]
    apply wpT_run 7 (some 47)
    · simp only [List.getElem?_toArray, List.getElem?_cons_succ, List.getElem?_cons_zero]; exact rfl
    · rfl
    · kernel_rfl
    · rfl
    intro w' hw'
    replace hw' := Ext.trans hpd6 hw'
    apply Exists.intro
    apply Exists.intro
    apply And.intro
    · go_simp; first | done | exact ⟨rfl, rfl⟩ | exact rfl
    apply And.intro
    · exact Kept.refl _ _
    have hpd7 := hw'
    clear hw'
    simp only [Act.put, List.setIfInBounds_toArray, List.set_cons_zero, List.set_cons_succ]
    apply wpT_next 8 (some 48) (by kernel_rfl)
    · simp only [List.getElem?_toArray, List.getElem?_cons_succ, List.getElem?_cons_zero]; exact rfl
    · rfl
    · kernel_rfl
    · kernel_rfl
    · kernel_rfl
    · exact fun _ _ _ _ h => h
    apply Exists.intro
    apply And.intro
    · apply yr_run; rfl; intro w' hw'; go_simp; (try with_reducible rfl)
    simp only [Act.put, List.setIfInBounds_toArray, List.set_cons_zero, List.set_cons_succ]
    apply wpT_last 9
    · simp only [List.getElem?_toArray, List.getElem?_cons_succ, List.getElem?_cons_zero]; exact rfl
    · rfl
    · kernel_rfl
    · rfl
    · decide
    intro w' hw'
    replace hw' := Ext.trans hpd7 hw'
    clear hpd7
    have hN := HY6.out.drew.below hw'
    have hcl := hN.box.cell (i := 1 + 5) (yt_cell (by rw [HS6.out]; decide))
    have hfr := hN.box.free (1 + 5)
    refine ⟨w'.setCell ⟨y, 6, none⟩ (.int .i64 (tk_ + 1)), ?_, ?_⟩
    · go_simp; first | done | exact rfl
    have HWk := Lib.hid (hN.bump 5 (tk_ + 1) (by rw [Gtk_.out]) rfl)
    have HGk := Lib.hid ((NtGo.below (S := YtT y A5) (Below.drew (Below.refl _ _))).trans ((NtGo.below hw').trans HWk.out.2))
    obtain ⟨W5, gW5⟩ : ∃ x, w'.setCell ⟨y, 6, none⟩ (.int .i64 (tk_ + 1)) = x := ⟨_, rfl⟩
    rw [show (⟨y, 1 + 5, none⟩ : Addr) = ⟨y, 6, none⟩ from rfl, gW5] at HWk HGk
    rw [gW5]
    clear hw' hN hcl hfr gW5
    try simp only [Act.put, List.setIfInBounds_toArray, List.set_cons_zero, List.set_cons_succ]
    refine wpT_done (by kernel_rfl) ?_ _
    intro W7 hw6
    have HY7 := Lib.hid (HWk.out.1.below hw6)
    have HG7 := Lib.hid (HGk.out.trans (NtGo.below hw6))
    clear hw6 HWk HGk ldk_ hwk_ Gtk_
    go_wp2
    go_ret
    exact ⟨rfl, A5, c5, es ++ [e], by rw [HD.out]; exact HY7.out, HG6.out.trans HG7.out⟩
end Go.Proofs.Ytibbibpfnpjjdaa

/- The document's net: Turn. -/
namespace Go.Proofs.Ytibbibpfnpjjdaa
open Go.RowKit
set_option linter.unusedSimpArgs false
set_option linter.unusedVariables false

/-- An element of its row is set. -/
theorem YtIn.put {B : Nat} {w : World} {y : Nat} {A : Option Addr} {c : Nat} {es : List Sl} {s : NtS} (h : YtIn B w y A c es s) (m : Nat) (hm : m < s.1.length) (e : Sl) (L : List Nat) (he : Byt w e L) :
    ∃ g, A = some ⟨g, 0, none⟩ ∧ (∃ v, w.cell? ⟨g, m, none⟩ = some v) ∧ w.frozen? ⟨g, m, none⟩ = false ∧ YtIn B (w.setCell ⟨g, m, none⟩ (.slice e.1 e.2.1 e.2.2)) y A c (es.set m e) (s.1.set m L, s.2) ∧ NtGo w (w.setCell ⟨g, m, none⟩ (.slice e.1 e.2.1 e.2.2)) (YtT y A) (YtT y A) := by
  obtain ⟨g, junk, rfl, hlo, hW, hcl, hnc, hcm, hxl⟩ := own_place h.own (by omega)
  rw [Nat.mul_one] at hcl hxl
  have hel := h.eslen
  have hk : Kept (fun b => b = g) w (w.setCell ⟨g, m, none⟩ (.slice e.1 e.2.1 e.2.2)) := (Kept.refl (fun b => b = g) w).setCell (p := ⟨g, m, none⟩) (.inl rfl) _
  have hyg : y ≠ g := h.box.ne_ hW (by decide)
  have hsl : (s.1.set m L).length = s.1.length := by rw [List.length_set]
  have hw5 := hW.set_ m (.slice e.1 e.2.1 e.2.2)
  rw [List.set_append_left _ _ (by omega), rowsSl_set es m e] at hw5
  have hrl : (rowsV slc (es.set m e)).length = s.1.length := by rw [← rowsSl_set, List.length_set, hxl]
  refine ⟨g, rfl, ⟨_, hW.cell (i := m) (List.getElem?_eq_getElem (by rw [List.length_append]; omega))⟩, hW.free m, ⟨?_, h.lo, ?_, (h.each.set_ hel m he).kept hk (fun b q => by rw [show b = g from q]; exact nob_whole hW (by decide))⟩, ⟨hk.wider (fun i _ q => .inr (by rw [show i = g from q]; rfl)), fun b q => .inl q⟩⟩
  · rw [hsl]; exact h.box.far (p := ⟨g, m, none⟩) hyg _
  · rw [hsl]; exact own_mk (k := 1) hw5 hlo (by rw [List.length_append, hrl]; rw [List.length_append, hxl] at hcl; omega) hnc hcm (by rw [hrl]; omega)
set_option maxRecDepth 100000 in
set_option maxHeartbeats 4000000 in
theorem yt_turn_no {B : Nat} {y : Nat} {A : Option Addr} {c : Nat} {es : List Sl} {s : NtS} (w : World) (h : YtIn B w y A c es s) (i a : Int) (hi : ¬ (hasN s i = true ∧ 0 ≤ a ∧ a < (atN s i).length)) :
    Calls Try.prog 34 #[.pointer (some ⟨y, 0, none⟩), .int .i64 i, .int .i64 a] w fun e w' => e = .returned (.int .i64 1) ∧ w' = w := by
  have l0 := h.box.cell (i := 0) (v := .slice A s.1.length c) rfl
  by_cases hh : hasN s i = true
  · obtain ⟨m, rfl⟩ : ∃ m : Nat, i = (m : Int) := ⟨i.toNat, by have := (of_decide_eq_true hh).1; omega⟩
    have hm : m < s.1.length := by have := (of_decide_eq_true hh).2; omega
    obtain ⟨L, hL⟩ : ∃ L, s.1[m]? = some L := ⟨_, List.getElem?_eq_getElem hm⟩
    obtain ⟨⟨A1, n1, c1⟩, he1, he2⟩ := h.each m L hL
    have haL : atN s (m : Int) = L := by unfold atN; rw [Int.toNat_natCast, List.getD_eq_getElem?_getD, hL]; rfl
    obtain rfl : n1 = L.length := he2.len
    rw [haL] at hi
    obtain ⟨b, o, rfl, hlt, hpl⟩ := h.row.place slc_len (by decide) (by omega)
    have k1 := hpl m _ he1 0 (.slice A1 L.length c1) rfl
    rw [Addr.add_lit] at k1
    simp only [Nat.add_zero, Nat.mul_one] at k1
    obtain ⟨n, gn⟩ : ∃ n, s.1.length = n := ⟨_, rfl⟩
    rw [gn] at l0 hm
    have hq1 : decide ((m : Int) < 0) = false := decide_eq_false (by omega)
    have hq2 : decide ((n : Int) ≤ (m : Int)) = false := decide_eq_false (by omega)
    have hmI : (m : Int) < (n : Int) := by omega
    by_cases ha : a < 0
    · have hq3 : decide (a < 0) = true := decide_eq_true ha
      clear hi hh h hL he1 he2 haL hlt hpl gn
      go_enter Try.func34, Try.ntmps34
      go_wp2
      go_ret
      exact ⟨rfl, rfl⟩
    · have hge : ¬ a < (L.length : Int) := fun q => hi ⟨hh, by omega, q⟩
      obtain ⟨N, gN⟩ : ∃ n, L.length = n := ⟨_, rfl⟩
      rw [gN] at k1 hge
      have hq3 : decide (a < 0) = false := decide_eq_false ha
      have hq4 : decide ((N : Int) ≤ a) = true := decide_eq_true (by omega)
      clear hi hh h hL he1 he2 haL hlt hpl gn gN
      go_enter Try.func34, Try.ntmps34
      go_wp2
      go_ret
      exact ⟨rfl, rfl⟩
  · obtain ⟨n, gn⟩ : ∃ n, s.1.length = n := ⟨_, rfl⟩
    rw [gn] at l0
    by_cases h0 : i < 0
    · have hq1 : decide (i < 0) = true := decide_eq_true h0
      clear hi hh h gn l0
      go_enter Try.func34, Try.ntmps34
      go_wp2
      go_ret
      exact ⟨rfl, rfl⟩
    · have hq1 : decide (i < 0) = false := decide_eq_false h0
      have hq2 : decide ((n : Int) ≤ i) = true := decide_eq_true (by
        unfold hasN at hh
        have := of_decide_eq_false (by simpa using hh : decide (0 ≤ i ∧ i < (s.1.length : Int)) = false)
        omega)
      clear hi hh h gn h0
      go_enter Try.func34, Try.ntmps34
      go_wp2
      go_ret
      exact ⟨rfl, rfl⟩
set_option maxRecDepth 100000 in
set_option maxHeartbeats 4000000 in
theorem yt_turn_yes {B : Nat} {y : Nat} {A : Option Addr} {c : Nat} {es : List Sl} {s : NtS} (w : World) (h : YtIn B w y A c es s) (hs : NtOk s) (i a : Int) (hi : hasN s i = true ∧ 0 ≤ a ∧ a < (atN s i).length) :
    Calls Try.prog 34 #[.pointer (some ⟨y, 0, none⟩), .int .i64 i, .int .i64 a] w fun e w' => e = .returned (.int .i64 0) ∧ YtSt B y A w (turnN s i a) w' := by
  obtain ⟨hh, ha0, ha1⟩ := hi
  obtain ⟨m, rfl⟩ : ∃ m : Nat, i = (m : Int) := ⟨i.toNat, by have := (of_decide_eq_true hh).1; omega⟩
  obtain ⟨x, rfl⟩ : ∃ m : Nat, a = (m : Int) := ⟨a.toNat, by omega⟩
  have hm : m < s.1.length := by have := (of_decide_eq_true hh).2; omega
  obtain ⟨L, hL⟩ : ∃ L, s.1[m]? = some L := ⟨_, List.getElem?_eq_getElem hm⟩
  obtain ⟨⟨A1, n1, c1⟩, he1, he2⟩ := h.each m L hL
  have haL : atN s (m : Int) = L := by unfold atN; rw [Int.toNat_natCast, List.getD_eq_getElem?_getD, hL]; rfl
  obtain rfl : n1 = L.length := he2.len
  have hTN : turnN s (m : Int) (x : Int) = (s.1.set m (L.set x (flip1 (L.getD x 0))), s.2) := by
    unfold turnN
    rw [if_pos ⟨hh, ha0, ha1⟩, haL, Int.toNat_natCast, Int.toNat_natCast]
  rw [haL] at ha1
  have hbL := hs.bytes L (List.mem_of_getElem? hL)
  have hx : x < L.length := by omega
  obtain ⟨b, o, rfl, hlt, hpl⟩ := h.row.place slc_len (by decide) (by omega)
  have k1 := hpl m _ he1 0 (.slice A1 L.length c1) rfl
  rw [Addr.add_lit] at k1
  simp only [Nat.add_zero, Nat.mul_one] at k1
  have l0 := h.box.cell (i := 0) (v := .slice (some ⟨b, o, none⟩) s.1.length c) rfl
  have H := Lib.hid h
  have HTN := Lib.hid hTN
  have HbL := Lib.hid hbL
  have Hm : RowKit.Hid (m < s.1.length ∧ s.1.length ≤ 4096) := Lib.hid ⟨hm, hs.max⟩
  have Hx : RowKit.Hid (x < L.length) := Lib.hid hx
  have HA1 : RowKit.Hid (∃ a, A1 = some a) := Lib.hid (by
    cases A1 with
    | none => have := (he2.rds.none_ rfl).1; omega
    | some a => exact ⟨a, rfl⟩)
  have HR1 := Lib.hid (he2.rds.al (.cells #[] 5))
  have HO0 : RowKit.Hid (Ow w w.heap.size 5 1 (.slice (some ⟨w.heap.size, 0, none⟩) 0 0) 0 [] (w.alloc (.cells #[] 5))) := Lib.hid (Ow.new_ (cs := #[]) (Below.refl _ _) (Nat.le_refl _) (Nat.le_refl _) (Nat.zero_le _) rfl)
  have k2 := ((below1 w (.cells #[] 5)).cell (p := ⟨b, o + m, none⟩) hlt).trans k1
  have l1 := (h.box.al (.cells #[] 5)).cell (i := 0) (v := .slice (some ⟨b, o, none⟩) s.1.length c) rfl
  obtain ⟨n, gn⟩ : ∃ n, s.1.length = n := ⟨_, rfl⟩
  have Gn := Lib.hid gn
  rw [gn] at l0 l1 hm
  have hq1 : decide ((m : Int) < 0) = false := decide_eq_false (by omega)
  have hq2 : decide ((n : Int) ≤ (m : Int)) = false := decide_eq_false (by omega)
  have hq3 : decide ((x : Int) < 0) = false := decide_eq_false (by omega)
  have hq4 : decide ((L.length : Int) ≤ (x : Int)) = false := decide_eq_false (by omega)
  have hmI : (m : Int) < (n : Int) := by omega
  obtain ⟨i8, hi8, hz80, hz81, hz82⟩ := info_parts_ info_u8
  obtain ⟨i0, hi0, hz0, hz1, hz2⟩ := info_parts_ info_sl
  obtain ⟨N, gN⟩ : ∃ n, L.length = n := ⟨_, rfl⟩
  have GN := Lib.hid gN
  have hNb : N ≤ 16403 := by omega
  rw [gN] at k1 k2 hq4 HR1
  have hp2 : ¬ n ≤ m := by omega
  have hp4 : ¬ N ≤ x := by omega
  clear hh hL he1 he2 haL hTN h hs hlt hpl hbL gn gN ha1
  go_enter Try.func34, Try.ntmps34
  go_upto_region 3 with fail
  clear hq1 hq2 hq3 hq4 hp2 hp4 k1 l0
  go_upto_region 4 with (first
    | (at_builtin
       refine wpList_push2 rfl (.tmp 35) (.tmp 42) _ rfl _ 5 i8 _ 1 1 Try.underlying32 hi8 hz80 hz81 hz82 rfl (by decide) _ _ _ rfl (by exact HO0.out) _ A1 N c1 _ rfl (by exact HR1.out) (f8_all L) (by unfold maxLen; omega) (by omega) ?_
       intro v1 w1 how1 hb1 hgr
       rw [Nat.zero_add, List.nil_append] at how1
       obtain ⟨Aq, cq, rfl, -⟩ := how1.rds
       have HO1 := Lib.hid how1
       clear how1 hb1 hgr))
  have hxN : x < N := by have := Hx.out; have := GN.out; omega
  obtain ⟨gb, jk2, rfl, hlo2, hW2, hcl2, hnc2, hcm2, hxl2⟩ := own_place HO1.out.own (by omega)
  have hv := hW2.cell (i := x) (v := .int .u8 ((L[x]'(Hx.out) : Nat) : Int)) (by rw [List.getElem?_append_left (by omega), rowsV_map8, List.getElem?_map, List.getElem?_eq_getElem Hx.out]; rfl)
  have hfv := hW2.free x
  have hLx : L.getD x 0 = L[x]'(Hx.out) := by rw [List.getD_eq_getElem?_getD, List.getElem?_eq_getElem Hx.out]; rfl
  have hxo := xor1 (L[x]'(Hx.out)) (HbL.out.2 _ (List.getElem_mem _))
  obtain ⟨p, gp⟩ : ∃ p, L[x]'(Hx.out) = p := ⟨_, rfl⟩
  rw [gp] at hv hLx hxo
  have HP := Lib.hid hLx
  have hW3 := hW2.set_ x (.int .u8 (flip1 p : Int))
  have he3 : (rowsV f8 L ++ jk2).set x (.int .u8 (flip1 p : Int)) = rowsV f8 (L.set x (flip1 p)) ++ jk2 := by rw [List.set_append_left _ _ (by omega), rows8_set]
  rw [he3] at hW3
  have hB3 : Below w.heap.size w (w1.setCell ⟨gb, x, none⟩ (.int .u8 (flip1 p : Int))) := HO1.out.below.setCell (p := ⟨gb, x, none⟩) hlo2 _
  have hN3 := H.out.below hB3
  have hlL : (rowsV f8 (L.set x (flip1 p))).length = N := by rw [rowsV_map8, List.length_map, List.length_set]; exact GN.out
  have ho3 := own_mk (k := 1) (n := N) (c := cq) hW3 hlo2 (by rw [List.length_append, hlL]; rw [List.length_append, hxl2] at hcl2; omega) hnc2 hcm2 (by rw [hlL]; omega)
  have hBy3 := Byt.of_own ho3 (by rw [List.length_set]; exact GN.out.symm)
  have HB3 := Lib.hid hB3
  have HN3 := Lib.hid hN3
  have HBy3 := Lib.hid hBy3
  have hxI : (x : Int) < (N : Int) := by omega
  clear hW3 he3 hB3 hN3 hlL ho3 hBy3 hW2 hcl2 hxl2 hcm2 hlo2 hLx gp HO1 HO0 k2 l1 HR1
  go_upto_region 5 with fail
  obtain ⟨W3, gW3⟩ : ∃ z, w1.setCell ⟨gb, x, none⟩ (.int .u8 (flip1 p : Int)) = z := ⟨_, rfl⟩
  rw [gW3] at HB3 HN3 HBy3 ⊢
  clear gW3 hv hfv hxo hxI
  have HO4 : RowKit.Hid (Ow W3 W3.heap.size 32 1 (.slice (some ⟨W3.heap.size, 0, none⟩) 0 0) 0 (rowsV slc []) (W3.alloc (.cells #[] 32))) := Lib.hid (Ow.new_ (cs := #[]) (Below.refl _ _) (Nat.le_refl _) (Nat.le_refl _) (Nat.zero_le _) rfl)
  have HR4 := Lib.hid (HN3.out.row.al (.cells #[] 32))
  have l4 := (HN3.out.box.al (.cells #[] 32)).cell (i := 0) (v := .slice (some ⟨b, o, none⟩) s.1.length c) rfl
  rw [Gn.out] at l4 HR4
  have hnb : n ≤ 4096 := by have := Hm.out.2; have := Gn.out; omega
  go_upto_region 6 with (first
    | (at_builtin
       refine wpList_push2 rfl (.tmp 53) (.tmp 57) _ rfl _ 32 i0 _ 1 24 Try.underlying27 hi0 hz0 hz1 hz2 rfl (by decide) _ _ _ rfl (by exact HO4.out) _ (some ⟨b, o, none⟩) n c _ rfl (by exact HR4.out) (slc_all es) (by unfold maxLen; omega) (by omega) ?_
       intro v5 w5 how5 hb5 hgr5
       rw [Nat.zero_add, ← rowsV_app, List.nil_append] at how5
       obtain ⟨A5, c5, rfl, -⟩ := how5.rds
       have hbx5 := HN3.out.box.below how5.below
       have l5 := hbx5.cell (i := 0) rfl
       have f5 := hbx5.free 0
       have HO5 := Lib.hid how5
       clear how5 hb5 hgr5 hbx5 l4))
  have hw6 := HN3.out.way (w1 := w5) HO5.out.below rfl (L' := s.1) (by rw [Gn.out]; exact HO5.out.own) (HN3.out.each.kept (S := fun _ => False) (Kept.of_below HO5.out.below) (fun _ e => e.elim))
  rw [Gn.out] at hw6
  have hBy6 := HBy3.out.kept hw6.2.k HN3.out.nob
  obtain ⟨g5, rfl, ⟨v8, l8⟩, f8, hY8, hG8⟩ := hw6.1.put m Hm.out.1 (some ⟨gb, 0, none⟩, N, cq) _ hBy6
  have l7 := hw6.1.box.cell (i := 0) (v := .slice (some ⟨g5, 0, none⟩) s.1.length c5) rfl
  rw [Gn.out] at l7
  have HG6 := Lib.hid hw6.2
  have HY8 := Lib.hid hY8
  have HG8 := Lib.hid hG8
  clear hw6 hBy6 hY8 hG8 HO5 HO4 HR4 l5 f5
  obtain ⟨W6, gW6⟩ : ∃ z, w5.setCell ⟨y, 0, none⟩ (.slice (some ⟨g5, 0, none⟩) n c5) = z := ⟨_, rfl⟩
  rw [gW6] at l8 f8 l7 HG6 HY8 HG8 ⊢
  clear gW6
  go_wp2
  go_ret
  refine ⟨rfl, some ⟨g5, 0, none⟩, c5, es.set m (some ⟨gb, 0, none⟩, N, cq), ?_, ((NtGo.below HB3.out).trans HG6.out).trans HG8.out⟩
  rw [HTN.out, HP.out]
  exact HY8.out
end Go.Proofs.Ytibbibpfnpjjdaa

/- The document's net: Send. -/
namespace Go.Proofs.Ytibbibpfnpjjdaa
open Go.RowKit
set_option linter.unusedSimpArgs false
set_option linter.unusedVariables false

theorem getD_nn {s : NtS} (h : ∀ x ∈ s.2, 0 ≤ x) (f : FrT × List Nat) : ∀ x ∈ (send1 s f).2, 0 ≤ x := by
  have hb : ∀ k, ∀ x ∈ bump s.2 k, 0 ≤ x := fun k x hx => by
    rcases List.mem_or_eq_of_mem_set hx with hx | rfl
    · exact h x hx
    · have : 0 ≤ s.2.getD k 0 := by
        rw [List.getD_eq_getElem?_getD]
        rcases hk : s.2[k]? with _ | z
        · exact Int.le_refl _
        · exact h z (List.mem_of_getElem? hk)
      omega
  unfold send1
  split
  · split
    · exact hb 0
    · exact hb 1
  · exact h
theorem sendN_nn : ∀ (l : List (FrT × List Nat)) (s : NtS), (∀ x ∈ s.2, 0 ≤ x) → ∀ x ∈ (sendN s l).2, 0 ≤ x
  | [], s, h => h
  | f :: l, s, h => sendN_nn l (send1 s f) (getD_nn h f)
set_option maxRecDepth 100000 in
set_option maxHeartbeats 4000000 in
theorem yt_send {B : Nat} {y : Nat} {A : Option Addr} {c : Nat} {es : List Sl} {s : NtS} (w : World) (h : YtIn B w y A c es s) (hs : NtOk s) (Af : Option Addr) (nf cf : Nat) (Fs : List Fe) (hf : FesIn w Af nf cf Fs) (hn : nf ≤ 1000) (hS : FesFar (YtT y A) Af nf Fs) (hT : ∀ x ∈ s.2, 0 ≤ x ∧ x ≤ 100000) :
    Calls Try.prog 36 #[.pointer (some ⟨y, 0, none⟩), .slice Af nf cf] w fun e w' => e = .returned (.int .i64 (sentN s (keyF Fs) : Int)) ∧ YtSt B y A w (sendN s (keyF Fs)) w' := by
  have HF := Lib.hid hf
  have HS := Lib.hid hS
  have Hl := Lib.hid hf.len
  have Hs := Lib.hid hs
  have HT := Lib.hid hT
  obtain ⟨i0, hi0, hz0, hz1, hz2⟩ := info_parts_ info_sl
  have H0 : RowKit.Hid (YtSt B y A w (sendN s (keyF (Fs.take 0))) w) := Lib.hid ⟨A, c, es, h, NtGo.below (Below.refl _ _)⟩
  clear h hf hS hs hT
  go_enter Try.func36, Try.ntmps36
  go_upto_region 3 with fail
  go_loopw [5, 6] (fun v5 v6 wr => ∃ j : Nat, j ≤ nf ∧ v6 = .int .i64 (j : Int) ∧ v5 = .int .i64 (sentN s (keyF (Fs.take j)) : Int) ∧ RowKit.Hid (YtSt B y A w (sendN s (keyF (Fs.take j))) wr)) (fun _ v6 _ => nf - (intOf v6).toNat)
  case atStart => exact ⟨0, Nat.zero_le _, rfl, rfl, H0⟩
  case round =>
    clear H0
    obtain ⟨j, hj, rfl, rfl, hin⟩ := hrel
    by_cases hjn : j < nf
    · have hi1 : (j : Int) < (nf : Int) := by omega
      obtain ⟨x, hx⟩ : ∃ x, Fs[j]? = some x := ⟨_, List.getElem?_eq_getElem (by have := Hl.out; omega)⟩
      have hxm : x ∈ Fs := List.mem_of_getElem? hx
      have hNx : keyF (Fs.take (j + 1)) = keyF (Fs.take j) ++ [x.1] := keyF_take hx
      have hok := NtOk.sends _ s Hs.out (keyF_bytes HF.out j)
      have hsm := sendN_small (keyF (Fs.take j)) s 100000 (fun x hx => (HT.out x hx).2) (by decide)
      have hsn := sendN_nn (keyF (Fs.take j)) s (fun x hx => (HT.out x hx).1)
      have hkl : (keyF (Fs.take j)).length ≤ 1000 := by unfold keyF; rw [List.length_map, List.length_take]; omega
      have hNl := sentN_le (keyF (Fs.take j)) s
      have HA : RowKit.Hid (sendN s (keyF (Fs.take (j + 1))) = send1 (sendN s (keyF (Fs.take j))) x.1 ∧ sentN s (keyF (Fs.take (j + 1))) = sentN s (keyF (Fs.take j)) + sends (sendN s (keyF (Fs.take j))) x.1) := Lib.hid (by rw [hNx, sendN_app, sentN_app]; exact ⟨rfl, rfl⟩)
      obtain ⟨S1, gS1⟩ : ∃ z, sendN s (keyF (Fs.take j)) = z := ⟨_, rfl⟩
      obtain ⟨N1, gN1⟩ : ∃ z, sentN s (keyF (Fs.take j)) = z := ⟨_, rfl⟩
      rw [gS1] at hin hok hsm hsn HA
      rw [gN1] at hNl HA ⊢
      have hN1 : N1 ≤ 1000 := by omega
      have HTB : RowKit.Hid (∀ k, 0 ≤ S1.2.getD k 0 ∧ S1.2.getD k 0 ≤ 1000000) := Lib.hid (fun k => getD_small (fun x hx => ⟨hsn x hx, by have := hsm x hx; omega⟩) k)
      obtain ⟨A1, c1, es1, h1, h2⟩ := hin.out
      have hfr := HF.out.kept h2.k HS.out
      have HS6 := Lib.hid hok.six
      have hmx := hok.max
      obtain ⟨b, off, rfl, hbB, hpl⟩ := hfr.row.place feC_len (by decide) (by omega)
      have HP := Lib.hid (hpl j x hx)
      have HX := Lib.hid (hfr.each x hxm)
      have HN := Lib.hid h1
      have HGo := Lib.hid h2
      clear hNx hok hsm hsn hkl hNl gS1 gN1 hin h1 h2 hfr hbB hpl hxm
      go_upto_region 5 with fail
      refine wp_region_lit ?_
      refine wl_read (v := ?_) (some 16) rfl (by rfl) ?_ ?_
      rotate_left
      · go_simp; (try with_reducible rfl)
      simp only [Act.put, List.setIfInBounds_toArray, List.set_cons_zero, List.set_cons_succ]
      refine wl_read (v := ?_) (some 17) rfl (by rfl) ?_ ?_
      rotate_left
      · go_simp; (try with_reducible rfl)
      simp only [Act.put, List.setIfInBounds_toArray, List.set_cons_zero, List.set_cons_succ]
      refine wl_read (v := ?_) (some 18) rfl (by rfl) ?_ ?_
      rotate_left
      · go_simp; (try with_reducible rfl)
      simp only [Act.put, List.setIfInBounds_toArray, List.set_cons_zero, List.set_cons_succ]
      refine wl_load_at (some 19) rfl (by rfl) 34 (.tmp 18) rfl ⟨b, off + j * 7, none⟩ rfl (feC x) _ HP.out Try.underlying34 rfl (by kernel_rfl) ?_
      simp only [Act.put, List.setIfInBounds_toArray, List.set_cons_zero, List.set_cons_succ]
      by_cases hm : mayF x.1.1 x.1.2.length = 0
      · have HPy : RowKit.Hid (Calls Try.prog 51 #[.agg (feC x).toArray] wr (GivesO wr x.1.1 x.1.2)) := Lib.hid (rput_own x.1.1 x.2.1 x.1.2.length x.2.2 x.1.2 wr hm HX.out.rds HX.out.bytes)
        clear HX HP
        go_wp2_with fail
        refine HPy.out.mono ?_
        rintro e w3 ⟨A3, c3, rfl, ho3, hb3⟩
        have hN3 := HN.out.below hb3
        have HB3 := Lib.hid (Byt.of_own ho3 rfl)
        have HN3 := Lib.hid hN3
        have HGo3 := Lib.hid (HGo.out.trans (NtGo.below hb3))
        have l0 := hN3.box.cell (i := 0) (v := .slice A1 S1.1.length c1) rfl
        clear hb3 ho3 hN3 HN HGo HPy
        obtain ⟨n3, gn3⟩ : ∃ z, (putF x.1.1 x.1.2).length = z := ⟨_, rfl⟩
        rw [gn3] at HB3 ⊢
        obtain ⟨n1, gn1⟩ : ∃ z, S1.1.length = z := ⟨_, rfl⟩
        have Gn1 := Lib.hid gn1
        rw [gn1] at l0
        by_cases hr : n1 < 4096
        · have HR := Lib.hid (send1_room (s := S1) (f := x.1) hm (by omega))
          have hq : decide ((4096 : Int) ≤ (n1 : Int)) = false := decide_eq_false (by omega)
          have HO4 : RowKit.Hid (Ow w3 w3.heap.size 32 1 (.slice (some ⟨w3.heap.size, 0, none⟩) 0 0) 0 (rowsV slc []) (w3.alloc (.cells #[] 32))) := Lib.hid (Ow.new_ (cs := #[]) (Below.refl _ _) (Nat.le_refl _) (Nat.le_refl _) (Nat.zero_le _) rfl)
          have HR4 := Lib.hid (HN3.out.row.al (.cells #[] 32))
          have l4 := (HN3.out.box.al (.cells #[] 32)).cell (i := 0) (v := .slice A1 S1.1.length c1) rfl
          rw [gn1] at l4 HR4
          clear hm hmx gn1 gn3
          go_upto_region 9 with fail
          clear hq l0
          go_upto_region 10 with (first
            | (at_builtin
               refine wpList_push2 rfl (.tmp 41) (.tmp 45) _ rfl _ 32 i0 _ 1 24 Try.underlying27 hi0 hz0 hz1 hz2 rfl (by decide) _ _ _ rfl (by exact HO4.out) _ A1 n1 c1 _ rfl (by exact HR4.out) (slc_all es1) (by unfold maxLen; omega) (by omega) ?_
               intro v5 w5 how5 hb5 hgr5
               rw [Nat.zero_add, ← rowsV_app, List.nil_append] at how5
               obtain ⟨A5, c5, rfl, -⟩ := how5.rds
               have HO6 := Lib.hid (how5.up (below1 w5 (.cells #[.slice A3 n3 c3] 32)))
               have HL6 : RowKit.Hid (RdS (w5.alloc (.cells #[.slice A3 n3 c3] 32)) (w5.alloc (.cells #[.slice A3 n3 c3] 32)).heap.size 1 (some ⟨w5.heap.size, 0, none⟩) 1 1 (rowsV slc [(A3, n3, c3)])) := Lib.hid (RdS.of_whole (Whole.new_ w5 32 [.slice A3 n3 c3]) rfl)
               clear how5 hb5 hgr5)
            | (at_builtin
               refine wpList_push2 rfl (.tmp 46) (.tmp 48) _ rfl _ 32 i0 _ 1 24 Try.underlying27 hi0 hz0 hz1 hz2 rfl (by decide) _ _ _ rfl (by exact HO6.out) _ (some ⟨w5.heap.size, 0, none⟩) 1 1 _ rfl (by exact HL6.out) (slc_all [(A3, n3, c3)]) (by unfold maxLen; omega) (by omega) ?_
               intro v7 w7 how7 hb7 hgr7
               rw [← rowsV_app] at how7
               obtain ⟨A7, c7, rfl, -⟩ := how7.rds
               have hbx7 := HN3.out.box.below how7.below
               have l7 := hbx7.cell (i := 0) rfl
               have f7 := hbx7.free 0
               have HO7 := Lib.hid how7
               clear how7 hb7 hgr7 hbx7 l4))
          have hll : (S1.1 ++ [putF x.1.1 x.1.2]).length = n1 + 1 := by rw [List.length_append, Gn1.out]; rfl
          have hw8 := HN3.out.way (w1 := w7) HO7.out.below rfl (L' := S1.1 ++ [putF x.1.1 x.1.2]) (by rw [hll]; exact HO7.out.own) ((HN3.out.each.app HN3.out.eslen HB3.out).kept (S := fun _ => False) (Kept.of_below HO7.out.below) (fun _ e => e.elim))
          rw [hll] at hw8
          have HY8 := Lib.hid hw8.1
          have HG8 := Lib.hid (HGo3.out.trans hw8.2)
          clear hw8 hll HO7 HO6 HL6 HO4 HR4 l7 f7
          obtain ⟨W8, gW8⟩ : ∃ z, w7.setCell ⟨y, 0, none⟩ (.slice A7 (n1 + 1) c7) = z := ⟨_, rfl⟩
          rw [gW8] at HY8 HG8 ⊢
          clear gW8
          obtain ⟨tk_, gtk_⟩ : ∃ z, S1.2.getD 0 0 = z := ⟨_, rfl⟩
          have ldk_ : ∀ w', Kept Nil_ W8.drew w' → w'.cell? ⟨y, 1, none⟩ = some (.int .i64 tk_) := fun w' hk => hk.nil_cell (HY8.out.drew.box.cell (i := 1 + 0) (gtk_ ▸ yt_cell (by rw [HS6.out]; decide)))
          have Gtk_ := Lib.hid gtk_
          have hwk_ : IntKind.i64.wrap (tk_ + 1) = tk_ + 1 := by
            have h1 := HTB.out 0
            rw [gtk_] at h1
            exact IntWalk.i64_in _ (by omega)
          clear gtk_
          refine wp_region_tail (Nil_) [9] (by kernel_rfl) ?_
          apply wpT_next 0 (some 52) (by kernel_rfl)
          · simp only [List.getElem?_toArray, List.getElem?_cons_succ, List.getElem?_cons_zero]; exact rfl
          · rfl
          · kernel_rfl
          · kernel_rfl
          · kernel_rfl
          · exact fun _ _ _ _ h => h
          apply Exists.intro
          apply And.intro
          · apply yr_run; rfl; intro w' hw'; go_simp; (try with_reducible rfl)
          simp only [Act.put, List.setIfInBounds_toArray, List.set_cons_zero, List.set_cons_succ]
          apply wpT_next 1 (some 53) (by kernel_rfl)
          · simp only [List.getElem?_toArray, List.getElem?_cons_succ, List.getElem?_cons_zero]; exact rfl
          · rfl
          · kernel_rfl
          · kernel_rfl
          · kernel_rfl
          · exact fun _ _ _ _ h => h
          apply Exists.intro
          apply And.intro
          · apply yr_run; rfl; intro w' hw'; go_simp; (try with_reducible rfl)
          simp only [Act.put, List.setIfInBounds_toArray, List.set_cons_zero, List.set_cons_succ]
          apply wpT_next 2 (some 54) (by kernel_rfl)
          · simp only [List.getElem?_toArray, List.getElem?_cons_succ, List.getElem?_cons_zero]; exact rfl
          · rfl
          · kernel_rfl
          · kernel_rfl
          · kernel_rfl
          · exact fun _ _ _ _ h => h
          apply Exists.intro
          apply And.intro
          · apply yr_run; rfl; intro w' hw'; go_simp; (try with_reducible rfl)
          simp only [Act.put, List.setIfInBounds_toArray, List.set_cons_zero, List.set_cons_succ]
          apply wpT_next 3 (some 55) (by kernel_rfl)
          · simp only [List.getElem?_toArray, List.getElem?_cons_succ, List.getElem?_cons_zero]; exact rfl
          · rfl
          · kernel_rfl
          · kernel_rfl
          · kernel_rfl
          · exact fun _ _ _ _ h => h
          apply Exists.intro
          apply And.intro
          · apply yr_run; rfl; intro w' hw'; go_simp; (try with_reducible rfl)
          simp only [Act.put, List.setIfInBounds_toArray, List.set_cons_zero, List.set_cons_succ]
          apply wpT_next 4 (some 56) (by kernel_rfl)
          · simp only [List.getElem?_toArray, List.getElem?_cons_succ, List.getElem?_cons_zero]; exact rfl
          · rfl
          · kernel_rfl
          · kernel_rfl
          · kernel_rfl
          · exact fun _ _ _ _ h => h
          apply Exists.intro
          apply And.intro
          · apply yr_run; rfl; intro w' hw'; go_simp; (try with_reducible rfl)
          simp only [Act.put, List.setIfInBounds_toArray, List.set_cons_zero, List.set_cons_succ]
          apply wpT_next 5 (some 57) (by kernel_rfl)
          · simp only [List.getElem?_toArray, List.getElem?_cons_succ, List.getElem?_cons_zero]; exact rfl
          · rfl
          · kernel_rfl
          · kernel_rfl
          · kernel_rfl
          · exact fun _ _ _ _ h => h
          apply Exists.intro
          apply And.intro
          · apply yr_run; rfl; intro w' hw'; go_simp; (try with_reducible rfl)
          simp only [Act.put, List.setIfInBounds_toArray, List.set_cons_zero, List.set_cons_succ]
          apply wpT_run 6 (some 58)
          · simp only [List.getElem?_toArray, List.getElem?_cons_succ, List.getElem?_cons_zero]; exact rfl
          · rfl
          · kernel_rfl
          · rfl
          intro w' hw'
          apply Exists.intro
          apply Exists.intro
          apply And.intro
          · go_simp; first | done | exact ⟨rfl, rfl⟩ | exact rfl
          apply And.intro
          · exact Kept.refl _ _
          have hpd6 := hw'
          clear hw'
          simp only [Act.put, List.setIfInBounds_toArray, List.set_cons_zero, List.set_cons_succ]
          apply wpT_run 7 (some 59)
          · simp only [List.getElem?_toArray, List.getElem?_cons_succ, List.getElem?_cons_zero]; exact rfl
          · rfl
          · kernel_rfl
          · rfl
          intro w' hw'
          replace hw' := Ext.trans hpd6 hw'
          apply Exists.intro
          apply Exists.intro
          apply And.intro
          · go_simp; first | done | exact ⟨rfl, rfl⟩ | exact rfl
          apply And.intro
          · exact Kept.refl _ _
          have hpd7 := hw'
          clear hw'
          simp only [Act.put, List.setIfInBounds_toArray, List.set_cons_zero, List.set_cons_succ]
          apply wpT_next 8 (some 60) (by kernel_rfl)
          · simp only [List.getElem?_toArray, List.getElem?_cons_succ, List.getElem?_cons_zero]; exact rfl
          · rfl
          · kernel_rfl
          · kernel_rfl
          · kernel_rfl
          · exact fun _ _ _ _ h => h
          apply Exists.intro
          apply And.intro
          · apply yr_run; rfl; intro w' hw'; go_simp; (try with_reducible rfl)
          simp only [Act.put, List.setIfInBounds_toArray, List.set_cons_zero, List.set_cons_succ]
          apply wpT_last 9
          · simp only [List.getElem?_toArray, List.getElem?_cons_succ, List.getElem?_cons_zero]; exact rfl
          · rfl
          · kernel_rfl
          · rfl
          · decide
          intro w' hw'
          replace hw' := Ext.trans hpd7 hw'
          clear hpd7
          have hN := HY8.out.drew.below hw'
          have hcl := hN.box.cell (i := 1 + 0) (yt_cell (by rw [HS6.out]; decide))
          have hfr := hN.box.free (1 + 0)
          refine ⟨w'.setCell ⟨y, 1, none⟩ (.int .i64 (tk_ + 1)), ?_, ?_⟩
          · go_simp; first | done | exact rfl
          have HWk := Lib.hid (hN.bump 0 (tk_ + 1) (by rw [Gtk_.out]) rfl)
          have HGk := Lib.hid ((NtGo.below (S := YtT y A7) (Below.drew (Below.refl _ _))).trans ((NtGo.below hw').trans HWk.out.2))
          obtain ⟨W5, gW5⟩ : ∃ x, w'.setCell ⟨y, 1, none⟩ (.int .i64 (tk_ + 1)) = x := ⟨_, rfl⟩
          rw [show (⟨y, 1 + 0, none⟩ : Addr) = ⟨y, 1, none⟩ from rfl, gW5] at HWk HGk
          rw [gW5]
          clear hw' hN hcl hfr gW5
          try simp only [Act.put, List.setIfInBounds_toArray, List.set_cons_zero, List.set_cons_succ]
          refine wpT_done (by kernel_rfl) ?_ _
          intro W9 hw6
          have HY9 := Lib.hid (HWk.out.1.below hw6)
          have HG9 := Lib.hid (HGk.out.trans (NtGo.below hw6))
          clear hw6 HWk HGk ldk_ hwk_ Gtk_
          have hw1 : IntKind.i64.wrap ((N1 : Int) + 1) = (N1 : Int) + 1 := IntWalk.i64_in _ (by omega)
          go_wp2
          go_roundw
          case rel =>
            refine ⟨j + 1, by omega, by go_num, ?_, Lib.hid ?_⟩
            · rw [HA.out.2, HR.out.2]; go_num
            · rw [HA.out.1, HR.out.1]; exact ⟨_, _, _, HY9.out, HG8.out.trans HG9.out⟩
          case measure => simp [intOf]; omega
        · have HR := Lib.hid (send1_full (s := S1) (f := x.1) hm (by omega))
          have hq : decide ((4096 : Int) ≤ (n1 : Int)) = true := decide_eq_true (by omega)
          clear hm hr hmx gn1 gn3
          go_upto_region 8 with fail
          clear hq l0
          obtain ⟨tk_, gtk_⟩ : ∃ z, S1.2.getD 1 0 = z := ⟨_, rfl⟩
          have ldk_ : ∀ w', Kept Nil_ w3.drew w' → w'.cell? ⟨y, 2, none⟩ = some (.int .i64 tk_) := fun w' hk => hk.nil_cell (HN3.out.drew.box.cell (i := 1 + 1) (gtk_ ▸ yt_cell (by rw [HS6.out]; decide)))
          have Gtk_ := Lib.hid gtk_
          have hwk_ : IntKind.i64.wrap (tk_ + 1) = tk_ + 1 := by
            have h1 := HTB.out 1
            rw [gtk_] at h1
            exact IntWalk.i64_in _ (by omega)
          clear gtk_
          refine wp_region_tail (Nil_) [9] (by kernel_rfl) ?_
          apply wpT_next 0 (some 31) (by kernel_rfl)
          · simp only [List.getElem?_toArray, List.getElem?_cons_succ, List.getElem?_cons_zero]; exact rfl
          · rfl
          · kernel_rfl
          · kernel_rfl
          · kernel_rfl
          · exact fun _ _ _ _ h => h
          apply Exists.intro
          apply And.intro
          · apply yr_run; rfl; intro w' hw'; go_simp; (try with_reducible rfl)
          simp only [Act.put, List.setIfInBounds_toArray, List.set_cons_zero, List.set_cons_succ]
          apply wpT_next 1 (some 32) (by kernel_rfl)
          · simp only [List.getElem?_toArray, List.getElem?_cons_succ, List.getElem?_cons_zero]; exact rfl
          · rfl
          · kernel_rfl
          · kernel_rfl
          · kernel_rfl
          · exact fun _ _ _ _ h => h
          apply Exists.intro
          apply And.intro
          · apply yr_run; rfl; intro w' hw'; go_simp; (try with_reducible rfl)
          simp only [Act.put, List.setIfInBounds_toArray, List.set_cons_zero, List.set_cons_succ]
          apply wpT_next 2 (some 33) (by kernel_rfl)
          · simp only [List.getElem?_toArray, List.getElem?_cons_succ, List.getElem?_cons_zero]; exact rfl
          · rfl
          · kernel_rfl
          · kernel_rfl
          · kernel_rfl
          · exact fun _ _ _ _ h => h
          apply Exists.intro
          apply And.intro
          · apply yr_run; rfl; intro w' hw'; go_simp; (try with_reducible rfl)
          simp only [Act.put, List.setIfInBounds_toArray, List.set_cons_zero, List.set_cons_succ]
          apply wpT_next 3 (some 34) (by kernel_rfl)
          · simp only [List.getElem?_toArray, List.getElem?_cons_succ, List.getElem?_cons_zero]; exact rfl
          · rfl
          · kernel_rfl
          · kernel_rfl
          · kernel_rfl
          · exact fun _ _ _ _ h => h
          apply Exists.intro
          apply And.intro
          · apply yr_run; rfl; intro w' hw'; go_simp; (try with_reducible rfl)
          simp only [Act.put, List.setIfInBounds_toArray, List.set_cons_zero, List.set_cons_succ]
          apply wpT_next 4 (some 35) (by kernel_rfl)
          · simp only [List.getElem?_toArray, List.getElem?_cons_succ, List.getElem?_cons_zero]; exact rfl
          · rfl
          · kernel_rfl
          · kernel_rfl
          · kernel_rfl
          · exact fun _ _ _ _ h => h
          apply Exists.intro
          apply And.intro
          · apply yr_run; rfl; intro w' hw'; go_simp; (try with_reducible rfl)
          simp only [Act.put, List.setIfInBounds_toArray, List.set_cons_zero, List.set_cons_succ]
          apply wpT_next 5 (some 36) (by kernel_rfl)
          · simp only [List.getElem?_toArray, List.getElem?_cons_succ, List.getElem?_cons_zero]; exact rfl
          · rfl
          · kernel_rfl
          · kernel_rfl
          · kernel_rfl
          · exact fun _ _ _ _ h => h
          apply Exists.intro
          apply And.intro
          · apply yr_run; rfl; intro w' hw'; go_simp; (try with_reducible rfl)
          simp only [Act.put, List.setIfInBounds_toArray, List.set_cons_zero, List.set_cons_succ]
          apply wpT_run 6 (some 37)
          · simp only [List.getElem?_toArray, List.getElem?_cons_succ, List.getElem?_cons_zero]; exact rfl
          · rfl
          · kernel_rfl
          · rfl
          intro w' hw'
          apply Exists.intro
          apply Exists.intro
          apply And.intro
          · go_simp; first | done | exact ⟨rfl, rfl⟩ | exact rfl
          apply And.intro
          · exact Kept.refl _ _
          have hpd6 := hw'
          clear hw'
          simp only [Act.put, List.setIfInBounds_toArray, List.set_cons_zero, List.set_cons_succ]
          apply wpT_run 7 (some 38)
          · simp only [List.getElem?_toArray, List.getElem?_cons_succ, List.getElem?_cons_zero]; exact rfl
          · rfl
          · kernel_rfl
          · rfl
          intro w' hw'
          replace hw' := Ext.trans hpd6 hw'
          apply Exists.intro
          apply Exists.intro
          apply And.intro
          · go_simp; first | done | exact ⟨rfl, rfl⟩ | exact rfl
          apply And.intro
          · exact Kept.refl _ _
          have hpd7 := hw'
          clear hw'
          simp only [Act.put, List.setIfInBounds_toArray, List.set_cons_zero, List.set_cons_succ]
          apply wpT_next 8 (some 39) (by kernel_rfl)
          · simp only [List.getElem?_toArray, List.getElem?_cons_succ, List.getElem?_cons_zero]; exact rfl
          · rfl
          · kernel_rfl
          · kernel_rfl
          · kernel_rfl
          · exact fun _ _ _ _ h => h
          apply Exists.intro
          apply And.intro
          · apply yr_run; rfl; intro w' hw'; go_simp; (try with_reducible rfl)
          simp only [Act.put, List.setIfInBounds_toArray, List.set_cons_zero, List.set_cons_succ]
          apply wpT_last 9
          · simp only [List.getElem?_toArray, List.getElem?_cons_succ, List.getElem?_cons_zero]; exact rfl
          · rfl
          · kernel_rfl
          · rfl
          · decide
          intro w' hw'
          replace hw' := Ext.trans hpd7 hw'
          clear hpd7
          have hN := HN3.out.drew.below hw'
          have hcl := hN.box.cell (i := 1 + 1) (yt_cell (by rw [HS6.out]; decide))
          have hfr := hN.box.free (1 + 1)
          refine ⟨w'.setCell ⟨y, 2, none⟩ (.int .i64 (tk_ + 1)), ?_, ?_⟩
          · go_simp; first | done | exact rfl
          have HWk := Lib.hid (hN.bump 1 (tk_ + 1) (by rw [Gtk_.out]) rfl)
          have HGk := Lib.hid ((NtGo.below (S := YtT y A1) (Below.drew (Below.refl _ _))).trans ((NtGo.below hw').trans HWk.out.2))
          obtain ⟨W5, gW5⟩ : ∃ x, w'.setCell ⟨y, 2, none⟩ (.int .i64 (tk_ + 1)) = x := ⟨_, rfl⟩
          rw [show (⟨y, 1 + 1, none⟩ : Addr) = ⟨y, 2, none⟩ from rfl, gW5] at HWk HGk
          rw [gW5]
          clear hw' hN hcl hfr gW5
          try simp only [Act.put, List.setIfInBounds_toArray, List.set_cons_zero, List.set_cons_succ]
          refine wpT_done (by kernel_rfl) ?_ _
          intro W6 hw6
          have HY6 := Lib.hid (HWk.out.1.below hw6)
          have HG6 := Lib.hid (HGk.out.trans (NtGo.below hw6))
          clear hw6 HWk HGk ldk_ hwk_ Gtk_
          go_wp2
          go_roundw
          case rel =>
            refine ⟨j + 1, by omega, by go_num, ?_, Lib.hid ?_⟩
            · rw [HA.out.2, HR.out.2]; first | done | rfl
            · rw [HA.out.1, HR.out.1]; exact ⟨_, _, _, HY6.out, HGo3.out.trans HG6.out⟩
          case measure => simp [intOf]; omega
      · have HPn : RowKit.Hid (Calls Try.prog 51 #[.agg (feC x).toArray] wr fun e w' => e = .returned (.tuple #[.slice none 0 0, .int .i64 (mayF x.1.1 x.1.2.length)]) ∧ Below wr.heap.size wr w') := Lib.hid (rput_not x.1.1 x.2.1 x.1.2.length x.2.2 wr hm)
        have HR := Lib.hid (send1_not (s := S1) (f := x.1) hm)
        obtain ⟨z, gz⟩ : ∃ z, mayF x.1.1 x.1.2.length = z := ⟨_, rfl⟩
        rw [gz] at HPn hm
        have hz : (z == 0) = false := by simpa using hm
        clear gz hm HX hmx HP
        go_wp2_with fail
        refine HPn.out.mono ?_
        rintro e w3 ⟨rfl, hb3⟩
        have HN3 := Lib.hid (HN.out.below hb3)
        have HGo3 := Lib.hid (HGo.out.trans (NtGo.below hb3))
        clear hb3
        go_wp2
        go_roundw
        case rel =>
          refine ⟨j + 1, by omega, by go_num, ?_, Lib.hid ?_⟩
          · rw [HA.out.2, HR.out.2]; first | done | rfl
          · rw [HA.out.1, HR.out.1]; exact ⟨_, _, _, HN3.out, HGo3.out⟩
        case measure => simp [intOf]; omega
    · obtain rfl : nf = j := by omega
      have hall : Fs.take nf = Fs := List.take_of_length_le (by rw [Hl.out]; exact Nat.le_refl _)
      rw [hall] at hin ⊢
      go_wp2
      go_ret
      exact ⟨rfl, hin.out⟩
end Go.Proofs.Ytibbibpfnpjjdaa

/- The law's few: at most 6 frames, bodies cut. -/
namespace Go.Proofs.Ytibbibpfnpjjdaa
open Go.RowKit
set_option linter.unusedSimpArgs false
set_option linter.unusedVariables false

def cutF (x : Fe) : Fe := ((x.1.1, x.1.2.take 100), x.2)
def fewF (L : List Fe) : List Fe := (L.take 6).map cutF
theorem fewF_len (L : List Fe) : (fewF L).length ≤ 6 := by unfold fewF; rw [List.length_map, List.length_take]; omega
theorem fewF_short (L : List Fe) : ∀ x ∈ fewF L, x.1.2.length ≤ 100 := fun x hx => by
  obtain ⟨z, -, rfl⟩ := List.mem_map.1 hx
  show (z.1.2.take 100).length ≤ 100
  rw [List.length_take]; omega
theorem cutF_ok {w : World} {x : Fe} (h : FeOk w x) : FeOk w (cutF x) := ⟨h.rds.fewer8 100, fun b hb => h.bytes b (List.mem_of_mem_take hb)⟩
theorem info_frame : (Try.prog.info? 34).map (fun i => (i.zero, i.size, i.bytes)) = some (some (.agg #[.int .i64 0, .int .i64 0, .int .i64 0, .int .i64 0, .int .i64 0, .int .i64 0, .slice none 0 0]), 7, 72) := by kernel_rfl
theorem rowsFe1 (x : Fe) : rowsV feC [x] = feC x := by simp [rowsV]
set_option maxRecDepth 100000 in
set_option maxHeartbeats 8000000 in
theorem few21_any (A0 : Option Addr) (n c0 : Nat) (L : List Fe) (w : World) (h : FesIn w A0 n c0 L) (hn : n ≤ maxLen) :
    Calls Try.prog 21 #[.slice A0 n c0] w fun e w' => ∃ A c, e = .returned (.slice A (fewF L).length c) ∧ w'.ownsRow w.heap.size 34 7 (.slice A (fewF L).length c) (fewF L).length (rowsV feC (fewF L)) ∧ Below w.heap.size w w' := by
  obtain ⟨i0, hi, hz0, hz1, hz2⟩ := info_parts_ info_frame
  have HR := Lib.hid h.row
  have Hl : RowKit.Hid (L.length = n) := Lib.hid h.len
  have HLe : RowKit.Hid (∀ x ∈ L, x.1.2.length ≤ x.2.2) := Lib.hid (fun x hx => (h.each x hx).rds.le)
  have HO0 : RowKit.Hid (Ow w w.heap.size 34 7 (.slice (some ⟨w.heap.size, 0, none⟩) 0 0) 0 (rowsV feC (fewF L |>.take 0)) (w.alloc (.cells #[] 34))) := Lib.hid (Ow.new_ (cs := #[]) (Below.refl _ _) (Nat.le_refl _) (Nat.le_refl _) (Nat.zero_le _) rfl)
  unfold maxLen at hn
  clear h
  go_enter Try.func21, Try.ntmps21
  go_upto_region 3 with fail
  obtain ⟨w0, gw0⟩ : ∃ z, w.alloc (.cells #[] 34) = z := ⟨_, rfl⟩
  obtain ⟨b0, gb0⟩ : ∃ z, w.heap.size = z := ⟨_, rfl⟩
  rw [gw0] at HO0 ⊢
  obtain ⟨v0, gv0⟩ : ∃ z : Value, .slice (some ⟨b0, 0, none⟩) 0 0 = z := ⟨_, rfl⟩
  have HV0 : RowKit.Hid (v0 = .slice (some ⟨w.heap.size, 0, none⟩) 0 0) := Lib.hid (by rw [← gv0, gb0])
  rw [gb0, gv0]
  rw [← HV0.out] at HO0
  clear gw0 gb0 gv0
  go_loopw [3, 4] (fun v i wr => ∃ k : Nat, k ≤ 6 ∧ k ≤ n ∧ i = .int .i64 (k : Int) ∧ RowKit.Hid (Ow w w.heap.size 34 7 v k (rowsV feC ((fewF L).take k)) wr)) (fun _ i _ => 6 - (intOf i).toNat)
  case atStart => exact ⟨0, Nat.zero_le _, Nat.zero_le _, rfl, HO0⟩
  case round =>
    clear HO0 HV0
    obtain ⟨k, hk6, hkn, rfl, HO⟩ := hrel
    obtain ⟨Ac, cc, rfl, -⟩ := HO.out.rds
    by_cases hlt : k < n ∧ k < 6
    · obtain ⟨hl1, hl2⟩ := hlt
      have hi1 : (k : Int) < (n : Int) := by omega
      have hi2 : (k : Int) < 6 := by omega
      obtain ⟨x, hx⟩ : ∃ x, L[k]? = some x := ⟨_, List.getElem?_eq_getElem (by have := Hl.out; omega)⟩
      have hxm : x ∈ L := List.mem_of_getElem? hx
      have HNx : RowKit.Hid ((fewF L).take (k + 1) = (fewF L).take k ++ [cutF x]) := Lib.hid (take_snoc_ _ _ _ (by unfold fewF; rw [List.getElem?_map, List.getElem?_take, if_pos hl2, hx]; rfl))
      have HRd2 := Lib.hid (HR.out.up HO.out.below HO.out.below.size)
      obtain ⟨b, off, rfl, hbB, hpl⟩ := HRd2.out.place feC_len (by decide) (by omega)
      have HP := Lib.hid (hpl k x hx)
      clear hx hpl hbB
      go_upto_region 5 with fail
      refine wp_region_lit ?_
      refine wl_read (v := ?_) (some 17) rfl (by rfl) ?_ ?_
      rotate_left
      · go_simp; (try with_reducible rfl)
      simp only [Act.put, List.setIfInBounds_toArray, List.set_cons_zero, List.set_cons_succ]
      refine wl_read (v := ?_) (some 18) rfl (by rfl) ?_ ?_
      rotate_left
      · go_simp; (try with_reducible rfl)
      simp only [Act.put, List.setIfInBounds_toArray, List.set_cons_zero, List.set_cons_succ]
      refine wl_read (v := ?_) (some 19) rfl (by rfl) ?_ ?_
      rotate_left
      · go_simp; (try with_reducible rfl)
      simp only [Act.put, List.setIfInBounds_toArray, List.set_cons_zero, List.set_cons_succ]
      refine wl_load_at (some 20) rfl (by rfl) 34 (.tmp 19) rfl ⟨b, off + k * 7, none⟩ rfl (feC x) _ HP.out Try.underlying34 rfl (by kernel_rfl) ?_
      simp only [Act.put, List.setIfInBounds_toArray, List.set_cons_zero, List.set_cons_succ]
      refine wl_new 5 rfl rfl rfl 34 (.tmp 20) rfl rfl #[.int .i64 0, .int .i64 0, .int .i64 0, .int .i64 0, .int .i64 0, .int .i64 0, .slice none 0 0] ?_ (feC x).toArray (by simp) rfl (by kernel_rfl) rfl (by simp [feC, frCells, Value.oneCell']) ?_
      · go_simp; (try with_reducible rfl)
      simp only [Act.put, List.setIfInBounds_toArray, List.set_cons_zero, List.set_cons_succ]
      have HO2 := Lib.hid (HO.out.up (below1 wr (.cells (feC x).toArray 34)))
      have HY2 : RowKit.Hid (Whole (wr.alloc (.cells (feC x).toArray 34)) wr.heap.size 34 (feC x)) := Lib.hid (Whole.new_ _ _ _)
      have Hg5 : RowKit.Hid (w.heap.size ≤ wr.heap.size) := Lib.hid HO.out.below.size
      have HNe : RowKit.Hid (some wr.heap.size ≠ _) := Lib.hid (Ow.ne_ HO.out (Nat.le_refl _))
      obtain ⟨W2, gW2⟩ : ∃ z, wr.alloc (.cells (feC x).toArray 34) = z := ⟨_, rfl⟩
      obtain ⟨g5, gg5⟩ : ∃ z, wr.heap.size = z := ⟨_, rfl⟩
      rw [gW2] at HO2 HY2 ⊢
      rw [gg5] at HY2 Hg5 HNe ⊢
      clear gW2 gg5 HO HRd2 HP
      have hle := HLe.out x hxm
      obtain ⟨N, gN⟩ : ∃ z, x.1.2.length = z := ⟨_, rfl⟩
      rw [gN] at hle
      have GN := Lib.hid gN
      have y6 : W2.cell? ⟨g5, 6, none⟩ = some (.slice x.2.1 N x.2.2) := gN ▸ HY2.out.cell (i := 6) rfl
      have z6 := HY2.out.free 6
      clear gN
      by_cases ht : 100 < N
      · have ht1 : decide ((100 : Int) < (N : Int)) = true := decide_eq_true (by omega)
        have ht2 : 100 ≤ x.2.2 := by omega
        go_upto_region 8 with fail
        have hY3 := HY2.out.set_ 6 (.slice x.2.1 100 x.2.2)
        obtain ⟨x', gx'⟩ : ∃ z, cutF x = z := ⟨_, rfl⟩
        have hcc : (feC x).set 6 (.slice x.2.1 100 x.2.2) = feC x' := by
          rw [← gx']
          have h100 : (x.1.2.take 100).length = 100 := by rw [List.length_take]; have := GN.out; omega
          unfold cutF feC frCells
          simp only [h100]
          rfl
        rw [hcc] at hY3
        have HY3 := Lib.hid hY3
        rw [gx'] at HNx
        have HO3 : RowKit.Hid (Ow w w.heap.size 34 7 (.slice Ac k cc) k (rowsV feC ((fewF L).take k)) (W2.setCell ⟨g5, 6, none⟩ (.slice x.2.1 100 x.2.2))) := Lib.hid ⟨own_cell_far HO2.out.own HNe.out _, HO2.out.below.setCell (p := ⟨g5, 6, none⟩) Hg5.out _, HO2.out.lo, by simpa [World.setCell] using HO2.out.hi⟩
        obtain ⟨W3, gW3⟩ : ∃ z, W2.setCell ⟨g5, 6, none⟩ (.slice x.2.1 100 x.2.2) = z := ⟨_, rfl⟩
        rw [gW3] at HY3 HO3 ⊢
        clear gW3 hY3 hcc gx' y6 z6 ht1 ht2 ht HO2 HY2 hle
        refine wp_region_lit ?_
        refine wl_read (v := ?_) (some 29) rfl (by rfl) ?_ ?_
        rotate_left
        · go_simp; (try with_reducible rfl)
        simp only [Act.put, List.setIfInBounds_toArray, List.set_cons_zero, List.set_cons_succ]
        refine wl_load (some 30) rfl (by rfl) 34 (.tmp 5) rfl g5 rfl 34 (feC x') _ HY3.out Try.underlying34 rfl (by kernel_rfl) ?_
        simp only [Act.put, List.setIfInBounds_toArray, List.set_cons_zero, List.set_cons_succ]
        refine wl_buildSlice (some 31) rfl (by rfl) 35 34 1 #[(0, .tmp 30)] rfl Try.underlying35 (feC x').toArray (by kernel_rfl) ?_
        simp only [Act.put, List.setIfInBounds_toArray, List.set_cons_zero, List.set_cons_succ]
        have HL4 : RowKit.Hid (RdS (W3.alloc (.cells (feC x').toArray 34)) (W3.alloc (.cells (feC x').toArray 34)).heap.size 7 (some ⟨W3.heap.size, 0, none⟩) 1 1 (rowsV feC [x'])) := Lib.hid (by rw [rowsFe1]; exact RdS.of_whole (Whole.new_ _ _ _) rfl)
        have HO4 := Lib.hid (HO3.out.up (below1 W3 (.cells (feC x').toArray 34)))
        obtain ⟨W4, gW4⟩ : ∃ z, W3.alloc (.cells (feC x').toArray 34) = z := ⟨_, rfl⟩
        obtain ⟨g8, gg8⟩ : ∃ z, W3.heap.size = z := ⟨_, rfl⟩
        rw [gW4] at HL4 HO4 ⊢
        rw [gg8] at HL4 ⊢
        clear gW4 gg8 HO3 HY3
        go_wp2_with (first
          | (at_builtin
             refine wpList_push2 rfl (.tmp 29) (.tmp 31) _ rfl _ 34 i0 _ 7 72 Try.underlying35 hi hz0 hz1 hz2 rfl (by decide) _ _ _ rfl HO4.out _ _ _ _ _ rfl HL4.out (rowsV_one feC feC_one [x']) (by unfold maxLen; omega) (by omega) ?_
             intro v5 W5 how5 hb5 hgr5
             obtain ⟨A5, c5, rfl, -⟩ := how5.rds
             have HO5 := Lib.hid how5
             clear how5 hb5 hgr5))
        go_roundw
        case rel =>
          refine ⟨k + 1, by omega, by omega, by go_num, Lib.hid ?_⟩
          rw [HNx.out, rowsV_app]
          exact HO5.out
        case measure => simp [intOf]; omega
      · have ht1 : decide ((100 : Int) < (N : Int)) = false := decide_eq_false (by omega)
        obtain ⟨x', gx'⟩ : ∃ z, cutF x = z := ⟨_, rfl⟩
        have hcc : x = x' := by rw [← gx']; unfold cutF; rw [List.take_of_length_le (by have := GN.out; omega)]
        rw [gx'] at HNx
        have Hcc := Lib.hid hcc
        clear ht gx' hcc
        go_upto_region 8 with fail
        have HY3 : RowKit.Hid (Whole W2 g5 34 (feC x')) := Lib.hid (Hcc.out ▸ HY2.out)
        have HO3 := HO2
        obtain ⟨W3, gW3⟩ : ∃ z, W2 = z := ⟨_, rfl⟩
        rw [gW3] at HY3 HO3 ⊢
        clear gW3 y6 z6 ht1 HO2 HY2 hle
        refine wp_region_lit ?_
        refine wl_read (v := ?_) (some 29) rfl (by rfl) ?_ ?_
        rotate_left
        · go_simp; (try with_reducible rfl)
        simp only [Act.put, List.setIfInBounds_toArray, List.set_cons_zero, List.set_cons_succ]
        refine wl_load (some 30) rfl (by rfl) 34 (.tmp 5) rfl g5 rfl 34 (feC x') _ HY3.out Try.underlying34 rfl (by kernel_rfl) ?_
        simp only [Act.put, List.setIfInBounds_toArray, List.set_cons_zero, List.set_cons_succ]
        refine wl_buildSlice (some 31) rfl (by rfl) 35 34 1 #[(0, .tmp 30)] rfl Try.underlying35 (feC x').toArray (by kernel_rfl) ?_
        simp only [Act.put, List.setIfInBounds_toArray, List.set_cons_zero, List.set_cons_succ]
        have HL4 : RowKit.Hid (RdS (W3.alloc (.cells (feC x').toArray 34)) (W3.alloc (.cells (feC x').toArray 34)).heap.size 7 (some ⟨W3.heap.size, 0, none⟩) 1 1 (rowsV feC [x'])) := Lib.hid (by rw [rowsFe1]; exact RdS.of_whole (Whole.new_ _ _ _) rfl)
        have HO4 := Lib.hid (HO3.out.up (below1 W3 (.cells (feC x').toArray 34)))
        obtain ⟨W4, gW4⟩ : ∃ z, W3.alloc (.cells (feC x').toArray 34) = z := ⟨_, rfl⟩
        obtain ⟨g8, gg8⟩ : ∃ z, W3.heap.size = z := ⟨_, rfl⟩
        rw [gW4] at HL4 HO4 ⊢
        rw [gg8] at HL4 ⊢
        clear gW4 gg8 HO3 HY3
        go_wp2_with (first
          | (at_builtin
             refine wpList_push2 rfl (.tmp 29) (.tmp 31) _ rfl _ 34 i0 _ 7 72 Try.underlying35 hi hz0 hz1 hz2 rfl (by decide) _ _ _ rfl HO4.out _ _ _ _ _ rfl HL4.out (rowsV_one feC feC_one [x']) (by unfold maxLen; omega) (by omega) ?_
             intro v5 W5 how5 hb5 hgr5
             obtain ⟨A5, c5, rfl, -⟩ := how5.rds
             have HO5 := Lib.hid how5
             clear how5 hb5 hgr5))
        go_roundw
        case rel =>
          refine ⟨k + 1, by omega, by omega, by go_num, Lib.hid ?_⟩
          rw [HNx.out, rowsV_app]
          exact HO5.out
        case measure => simp [intOf]; omega
    · have h9 : ¬ ((k : Int) < (n : Int) ∧ (k : Int) < 6) := fun q => hlt ⟨by omega, by omega⟩
      have hk : (fewF L).take k = fewF L := by
        refine List.take_of_length_le ?_
        unfold fewF
        rw [List.length_map, List.length_take, Hl.out]
        omega
      have hkl : k = (fewF L).length := by
        have := congrArg List.length hk
        rw [List.length_take] at this
        unfold fewF at this ⊢
        rw [List.length_map, List.length_take, Hl.out] at this ⊢
        omega
      have hO := HO.out.own
      rw [hk] at hO
      have HOw := Lib.hid hO
      have HB := Lib.hid HO.out.below
      have Hk := Lib.hid hkl
      clear hO hkl hk
      by_cases hkn2 : (k : Int) < (n : Int)
      · have hk6b : decide ((k : Int) < 6) = false := decide_eq_false (fun q => h9 ⟨hkn2, q⟩)
        clear h9 hlt
        go_wp2
        go_ret
        exact ⟨Ac, cc, by rw [← Hk.out]; rfl, by rw [← Hk.out]; exact HOw.out, HB.out⟩
      · have hk6b : decide ((k : Int) < (n : Int)) = false := decide_eq_false hkn2
        clear h9 hlt
        go_wp2
        go_ret
        exact ⟨Ac, cc, by rw [← Hk.out]; rfl, by rw [← Hk.out]; exact HOw.out, HB.out⟩
end Go.Proofs.Ytibbibpfnpjjdaa

/- The code's net beside the document's. -/
namespace Go.Proofs.Ytibbibpfnpjjdaa
open Go.RowKit
set_option linter.unusedSimpArgs false
set_option linter.unusedVariables false

theorem nt_deliv {B : Nat} {g t : Nat} {go : Option Nat} {A : Option Addr} {c : Nat} {es : List Sl} {s : NtS} (w : World) (h : NtIn B w g t go A c es s) (hs : NtOk s) (i : Int) (hT : ∀ x ∈ s.2, x ≤ 1000000) : Calls Try.prog 17 #[.pointer (some ⟨g, 0, none⟩), .int .i64 i] w (GivesDl B g t go A c s i w) := by
  by_cases hi : hasN s i = true
  · cases hok : okF (atN s i) with
    | true => exact nt_deliv_yes w h hs i hi hT hok
    | false => exact nt_deliv_bad w h hs i hi hT hok
  · exact nt_deliv_no w h i hi
theorem yt_deliv {B : Nat} {y : Nat} {A : Option Addr} {c : Nat} {es : List Sl} {s : NtS} (w : World) (h : YtIn B w y A c es s) (hs : NtOk s) (i : Int) (hT : ∀ x ∈ s.2, 0 ≤ x ∧ x ≤ 1000000) : Calls Try.prog 31 #[.pointer (some ⟨y, 0, none⟩), .int .i64 i] w (GivesYd B y A s i w) := by
  by_cases hi : hasN s i = true
  · cases hok : okF (atN s i) with
    | true => exact yt_deliv_ok w h hs i hi hok hT
    | false => exact yt_deliv_bad w h hs i hi hok hT
  · exact yt_deliv_no w h hs i hi hT
/-- The code's net's step: what it is then. -/
def NtSt (B g t : Nat) (go : Option Nat) (A : Option Addr) (w : World) (s : NtS) (w' : World) : Prop := ∃ go' A' c' es', NtIn B w' g t go' A' c' es' s ∧ NtGo w w' (NtT g t go (wayB A)) (NtT g t go' (wayB A'))
theorem nt_doub {B : Nat} {g t : Nat} {go : Option Nat} {A : Option Addr} {c : Nat} {es : List Sl} {s : NtS} (w : World) (h : NtIn B w g t go A c es s) (hs : NtOk s) (i : Int) (hT : ∀ x ∈ s.2, x ≤ 1000000) : Calls Try.prog 18 #[.pointer (some ⟨g, 0, none⟩), .int .i64 i] w fun e w' => e = .returned (.int .i64 (doubE s i)) ∧ NtSt B g t go A w (doubN s i) w' := by
  by_cases hi : hasN s i = true ∧ s.1.length < 4096
  · refine (nt_doub_yes w h hs i hi.1 hi.2 hT).mono ?_
    rintro e w' ⟨rfl, go', A', c', es', h1, h2⟩
    exact ⟨by unfold doubE; rw [if_pos hi.1, if_pos hi.2], go', A', c', es', h1, h2⟩
  · refine (nt_doub_no w h i hi).mono ?_
    rintro e w' ⟨rfl, rfl⟩
    exact ⟨rfl, go, A, c, es, by unfold doubN; rw [if_neg hi]; exact h, NtGo.below (Below.refl _ _)⟩
theorem yt_doub {B : Nat} {y : Nat} {A : Option Addr} {c : Nat} {es : List Sl} {s : NtS} (w : World) (h : YtIn B w y A c es s) (hs : NtOk s) (i : Int) (hT : ∀ x ∈ s.2, 0 ≤ x ∧ x ≤ 1000000) : Calls Try.prog 33 #[.pointer (some ⟨y, 0, none⟩), .int .i64 i] w fun e w' => e = .returned (.int .i64 (doubE s i)) ∧ YtSt B y A w (doubN s i) w' := by
  by_cases hi : hasN s i = true ∧ s.1.length < 4096
  · refine (yt_doub_yes w h hs i hi.1 hi.2 hT).mono ?_
    rintro e w' ⟨rfl, h1⟩
    exact ⟨by unfold doubE; rw [if_pos hi.1, if_pos hi.2], h1⟩
  · refine (yt_doub_no w h i hi).mono ?_
    rintro e w' ⟨rfl, rfl⟩
    exact ⟨rfl, A, c, es, by unfold doubN; rw [if_neg hi]; exact h, NtGo.below (Below.refl _ _)⟩
theorem nt_turn {B : Nat} {g t : Nat} {go : Option Nat} {A : Option Addr} {c : Nat} {es : List Sl} {s : NtS} (w : World) (h : NtIn B w g t go A c es s) (hs : NtOk s) (i a : Int) : Calls Try.prog 19 #[.pointer (some ⟨g, 0, none⟩), .int .i64 i, .int .i64 a] w fun e w' => e = .returned (.int .i64 (turnE s i a)) ∧ NtSt B g t go A w (turnN s i a) w' := by
  by_cases hi : hasN s i = true ∧ 0 ≤ a ∧ a < (atN s i).length
  · refine (nt_turn_yes w h hs i a hi).mono ?_
    rintro e w' ⟨rfl, es', h1, h2⟩
    exact ⟨by unfold turnE; rw [if_pos hi], go, A, c, es', h1, h2⟩
  · refine (nt_turn_no w h i a hi).mono ?_
    rintro e w' ⟨rfl, rfl⟩
    exact ⟨by unfold turnE; rw [if_neg hi], go, A, c, es, by unfold turnN; rw [if_neg hi]; exact h, NtGo.below (Below.refl _ _)⟩
theorem yt_turn {B : Nat} {y : Nat} {A : Option Addr} {c : Nat} {es : List Sl} {s : NtS} (w : World) (h : YtIn B w y A c es s) (hs : NtOk s) (i a : Int) : Calls Try.prog 34 #[.pointer (some ⟨y, 0, none⟩), .int .i64 i, .int .i64 a] w fun e w' => e = .returned (.int .i64 (turnE s i a)) ∧ YtSt B y A w (turnN s i a) w' := by
  by_cases hi : hasN s i = true ∧ 0 ≤ a ∧ a < (atN s i).length
  · refine (yt_turn_yes w h hs i a hi).mono ?_
    rintro e w' ⟨rfl, h1⟩
    exact ⟨by unfold turnE; rw [if_pos hi], h1⟩
  · refine (yt_turn_no w h i a hi).mono ?_
    rintro e w' ⟨rfl, rfl⟩
    exact ⟨by unfold turnE; rw [if_neg hi], A, c, es, by unfold turnN; rw [if_neg hi]; exact h, NtGo.below (Below.refl _ _)⟩
theorem nt_drop' {B : Nat} {g t : Nat} {go : Option Nat} {A : Option Addr} {c : Nat} {es : List Sl} {s : NtS} (w : World) (h : NtIn B w g t go A c es s) (hs : NtOk s) (i : Int) (hT : ∀ x ∈ s.2, x ≤ 1000000) : Calls Try.prog 12 #[.pointer (some ⟨g, 0, none⟩), .int .i64 i] w fun e w' => e = .returned (.int .i64 (hasE s i)) ∧ NtSt B g t go A w (dropN s i) w' :=
  (nt_drop w h hs i hT).mono fun e w' ⟨h1, go', es', h2, h3⟩ => ⟨h1, go', A, c, es', h2, h3⟩
theorem nt_small {s : NtS} {w : World} {t : Nat} {go : Option Nat} (h : Tl w t go s.2) {M : Int} (hT : ∀ x ∈ s.2, x ≤ M) : ∀ x ∈ s.2, 0 ≤ x ∧ x ≤ M := fun x hx => ⟨(h.bd x hx).1, hT x hx⟩
/-- The two side by side. -/
structure TwIn (B : Nat) (w : World) (g t : Nat) (go : Option Nat) (A : Option Addr) (c : Nat) (es : List Sl) (y : Nat) (A' : Option Addr) (c' : Nat) (es' : List Sl) (s z : NtS) : Prop where
  nt : NtIn B w g t go A c es s
  yt : YtIn B w y A' c' es' z
  far : ∀ b, NtT g t go (wayB A) b → ¬ YtT y A' b
def TwS (g t : Nat) (go : Option Nat) (A : Option Addr) (y : Nat) (A' : Option Addr) (b : Nat) : Prop := NtT g t go (wayB A) b ∨ YtT y A' b
theorem TwIn.lt {B : Nat} {w : World} {g t : Nat} {go : Option Nat} {A : Option Addr} {c : Nat} {es : List Sl} {y : Nat} {A' : Option Addr} {c' : Nat} {es' : List Sl} {s z : NtS} (h : TwIn B w g t go A c es y A' c' es' s z) : ∀ b, TwS g t go A y A' b → B ≤ b ∧ b < w.heap.size := fun b hb => hb.elim (h.nt.lt b) (h.yt.lt b)
theorem TwIn.nob {B : Nat} {w : World} {g t : Nat} {go : Option Nat} {A : Option Addr} {c : Nat} {es : List Sl} {y : Nat} {A' : Option Addr} {c' : Nat} {es' : List Sl} {s z : NtS} (h : TwIn B w g t go A c es y A' c' es' s z) : ∀ b, TwS g t go A y A' b → NoB w b := fun b hb => hb.elim (h.nt.nob b) (h.yt.nob b)
theorem TwIn.below {B : Nat} {w w' : World} {g t : Nat} {go : Option Nat} {A : Option Addr} {c : Nat} {es : List Sl} {y : Nat} {A' : Option Addr} {c' : Nat} {es' : List Sl} {s z : NtS} (h : TwIn B w g t go A c es y A' c' es' s z) (hb : Below w.heap.size w w') : TwIn B w' g t go A c es y A' c' es' s z := ⟨h.nt.below hb, h.yt.below hb, h.far⟩
theorem TwIn.keep {S : Nat → Prop} {B : Nat} {w w' : World} {g t : Nat} {go : Option Nat} {A : Option Addr} {c : Nat} {es : List Sl} {y : Nat} {A' : Option Addr} {c' : Nat} {es' : List Sl} {s z : NtS} (h : TwIn B w g t go A c es y A' c' es' s z) (hk : Kept S w w') (h1 : ∀ b, TwS g t go A y A' b → ¬ S b) (h2 : ∀ b, S b → NoB w b) : TwIn B w' g t go A c es y A' c' es' s z :=
  ⟨h.nt.keep hk (fun b hb => h1 b (.inl hb)) h2, h.yt.keep hk (fun b hb => h1 b (.inr hb)) h2, h.far⟩
theorem TwIn.nstep {B : Nat} {w w' : World} {g t : Nat} {go go1 : Option Nat} {A A1 : Option Addr} {c c1 : Nat} {es es1 : List Sl} {y : Nat} {A' : Option Addr} {c' : Nat} {es' : List Sl} {s z s' : NtS} (h : TwIn B w g t go A c es y A' c' es' s z) (hn : NtIn B w' g t go1 A1 c1 es1 s') (hg : NtGo w w' (NtT g t go (wayB A)) (NtT g t go1 (wayB A1))) :
    TwIn B w' g t go1 A1 c1 es1 y A' c' es' s' z ∧ NtGo w w' (TwS g t go A y A') (TwS g t go1 A1 y A') := by
  refine ⟨⟨hn, h.yt.keep hg.k (fun b hb q => h.far b q hb) h.nt.nob, fun b hb q => ?_⟩, ⟨hg.k.wider (fun i _ e => .inl e), ?_⟩⟩
  · rcases hg.n b hb with e | e
    · exact h.far b e q
    · have := (h.yt.lt b q).2; omega
  · rintro b (e | e)
    · rcases hg.n b e with e | e
      · exact .inl (.inl e)
      · exact .inr e
    · exact .inl (.inr e)
theorem TwIn.ystep {B : Nat} {w w' : World} {g t : Nat} {go : Option Nat} {A : Option Addr} {c : Nat} {es : List Sl} {y : Nat} {A' A1 : Option Addr} {c' c1 : Nat} {es' es1 : List Sl} {s z z' : NtS} (h : TwIn B w g t go A c es y A' c' es' s z) (hn : YtIn B w' y A1 c1 es1 z') (hg : NtGo w w' (YtT y A') (YtT y A1)) :
    TwIn B w' g t go A c es y A1 c1 es1 s z' ∧ NtGo w w' (TwS g t go A y A') (TwS g t go A y A1) := by
  refine ⟨⟨h.nt.keep hg.k (fun b hb q => h.far b hb q) h.yt.nob, hn, fun b hb q => ?_⟩, ⟨hg.k.wider (fun i _ e => .inr e), ?_⟩⟩
  · rcases hg.n b q with e | e
    · exact h.far b hb e
    · have := (h.nt.lt b hb).2; omega
  · rintro b (e | e)
    · exact .inl (.inl e)
    · rcases hg.n b e with e | e
      · exact .inl (.inr e)
      · exact .inr e
/-- What the two are behind a step. -/
def TwSt (B g t y : Nat) (go : Option Nat) (A A' : Option Addr) (w : World) (s z : NtS) (w' : World) : Prop :=
  ∃ go1 A1 c1 es1 A2 c2 es2, TwIn B w' g t go1 A1 c1 es1 y A2 c2 es2 s z ∧ NtGo w w' (TwS g t go A y A') (TwS g t go1 A1 y A2)
/-- A call of the law's. -/
abbrev OpA := (Int × Int × Int) × ((Option Addr × Nat × Nat) × List Fe)
def oC (o : OpA) : List Value := [.int .i64 o.1.1, .int .i64 o.1.2.1, .int .i64 o.1.2.2, .slice o.2.1.1 o.2.1.2.1 o.2.1.2.2]
theorem oC_len (o : OpA) : (oC o).length = 4 := rfl
structure OpOk (B : Nat) (w : World) (o : OpA) : Prop where
  fs : FesIn w o.2.1.1 o.2.1.2.1 o.2.1.2.2 o.2.2
  max : o.2.1.2.1 ≤ maxLen
  low : ∀ x ∈ o.2.2, ∀ a, x.2.1 = some a → 0 < x.1.2.length → a.block < B
  row : ∀ a, o.2.1.1 = some a → 0 < o.2.1.2.1 → a.block < B
theorem OpOk.below {B : Nat} {w w' : World} {o : OpA} (h : OpOk B w o) (hb : Below w.heap.size w w') : OpOk B w' o := ⟨h.fs.below hb, h.max, h.low, h.row⟩
theorem OpOk.kept {S : Nat → Prop} {B : Nat} {w w' : World} {o : OpA} (h : OpOk B w o) (hk : Kept S w w') (hS : ∀ b, S b → B ≤ b) : OpOk B w' o :=
  ⟨h.fs.kept hk ⟨fun a ha hn q => by have := h.row a ha hn; have := hS _ q; omega, fun x hx a ha hn q => by have := h.low x hx a ha hn; have := hS _ q; omega⟩, h.max, h.low, h.row⟩
def kd (k : Int) : Nat := (bits .and .i64 k 7).toNat
theorem and_7 (x : Int) : ∃ v : Nat, v ≤ 7 ∧ bits .and .i64 x 7 = (v : Int) := by
  have h : (BitVec.ofInt 64 x &&& BitVec.ofInt 64 7).toNat ≤ 7 := by
    rw [BitVec.toNat_and]
    exact Nat.and_le_right
  refine ⟨_, h, ?_⟩
  show IntKind.i64.wrap ((BitVec.ofInt 64 x &&& BitVec.ofInt 64 7).toNat : Int) = _
  exact IntWalk.i64_in _ (by omega)
theorem kd_is (k : Int) : bits .and .i64 k 7 = (kd k : Int) ∧ kd k ≤ 7 := by
  obtain ⟨v, h1, h2⟩ := and_7 k
  unfold kd
  rw [h2]
  exact ⟨rfl, h1⟩
def opN (s : NtS) (o : OpA) : NtS :=
  match kd o.1.1 with
  | 3 => delivN s o.1.2.1
  | 4 => dropN s o.1.2.1
  | 5 => doubN s o.1.2.1
  | 6 => turnN s o.1.2.1 o.1.2.2
  | 7 => s
  | _ => sendN s (keyF (fewF o.2.2))
/-- What few gives. -/
def GivesFe (B : Nat) (Fs : List Fe) (w : World) (e : Ending) (w' : World) : Prop :=
  ∃ A n c, e = .returned (.slice A n c) ∧ n ≤ 6 ∧ FesIn w' A n c Fs ∧ (∀ S : Nat → Prop, (∀ b, S b → B ≤ b ∧ b < w.heap.size) → FesFar S A n Fs) ∧ Below w.heap.size w w'
theorem few_op {B : Nat} {w : World} {o : OpA} (h : OpOk B w o) : Calls Try.prog 21 #[.slice o.2.1.1 o.2.1.2.1 o.2.1.2.2] w (GivesFe B (fewF o.2.2) w) := by
  refine (few21_any _ _ _ _ w h.fs h.max).mono ?_
  rintro e w' ⟨A, c, rfl, ho, hb⟩
  have hr := own_rds ho
  refine ⟨A, _, c, rfl, fewF_len _, ⟨hr, fun x hx => ?_⟩, fun S hS => ⟨fun a ha hn q => ?_, fun x hx a ha hn q => ?_⟩, hb⟩
  · obtain ⟨z, hz, rfl⟩ := List.mem_map.1 hx
    have := cutF_ok (h.fs.each z (List.mem_of_mem_take hz))
    exact ⟨this.rds.bl hb, this.bytes⟩
  · have h1 := (own_lt ho ha).1
    have h2 := (hS _ q).2
    omega
  · obtain ⟨z, hz, rfl⟩ := List.mem_map.1 hx
    have h1 := h.low z (List.mem_of_mem_take hz) a ha (by
      have : 0 < (z.1.2.take 100).length := hn
      rw [List.length_take] at this
      omega)
    have h2 := (hS _ q).1
    omega
end Go.Proofs.Ytibbibpfnpjjdaa
