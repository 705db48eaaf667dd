/- Several texts in one. -/
import Derived.Test.YtibbibpfnpjjdaaNAC
import Derived.Test.YtibbibpfnpjjdaaNAA
import Derived.Test.YtibbibpfnpjjdaaNAD

/- frame.Take. -/
namespace Go.Proofs.Ytibbibpfnpjjdaa
open Go.RowKit
set_option linter.unusedSimpArgs false
set_option linter.unusedVariables false

theorem equal_b {b : Bool} (A A' : Option Addr) (n c n' c' : Nat) (P Q : List Nat) (w : World) (h : RdS w w.heap.size 1 A n c (rowsV f8 P)) (h' : RdS w w.heap.size 1 A' n' c' (rowsV f8 Q)) (hb : ((txt P).toList == (txt Q).toList) = b) :
    Calls Try.prog 53 #[.slice A n c, .slice A' n' c'] w fun e w' => e = .returned (.bool b) ∧ Below w.heap.size w w' :=
  (equal_any A A' n c n' c' P Q w h h').mono fun e w' ⟨h1, h2⟩ => ⟨by rw [h1, hb], h2 ▸ Below.refl _ _⟩
/-- What a Take gives, and where. -/
def GivesT (w : World) (L : List Nat) (e : Ending) (w' : World) : Prop :=
  ∃ A c, e = .returned (.tuple #[.agg (frCells (takeR L).1 A (takeR L).2.1.length c).toArray, .int .i64 (takeR L).2.2]) ∧ RdS w' w'.heap.size 1 A (takeR L).2.1.length c (rowsV f8 (takeR L).2.1) ∧ (∀ a, A = some a → 0 < (takeR L).2.1.length → w.heap.size ≤ a.block) ∧ Below w.heap.size w w'
theorem gives_not {w w' : World} {L : List Nat} {e : Ending} (h : okF L = false) (he : e = .returned (.tuple #[.agg (frCells zeroF none 0 0).toArray, .int .i64 2])) (hb : Below w.heap.size w w') : GivesT w L e w' := by
  have ht : takeR L = (zeroF, [], 2) := by unfold takeR; rw [if_neg (by rw [h]; decide)]
  unfold GivesT
  rw [ht]
  exact ⟨none, 0, he, rds_nil _ _ _, fun a ha => (by cases ha), hb⟩
theorem gives_yes {w w' : World} {L : List Nat} {e : Ending} {A : Option Addr} {c : Nat} (h : okF L = true) (he : e = .returned (.tuple #[.agg (frCells (frOf L) A (bodyOf L).length c).toArray, .int .i64 0])) (hr : RdS w' w'.heap.size 1 A (bodyOf L).length c (rowsV f8 (bodyOf L)))
    (hf : ∀ a, A = some a → 0 < (bodyOf L).length → w.heap.size ≤ a.block) (hb : Below w.heap.size w w') : GivesT w L e w' := by
  have ht : takeR L = (frOf L, bodyOf L, 0) := by unfold takeR; rw [if_pos h]
  unfold GivesT
  rw [ht]
  exact ⟨A, c, he, hr, hf, hb⟩
set_option maxRecDepth 100000 in
set_option maxHeartbeats 4000000 in
theorem take_c (A : Option Addr) (n c : Nat) (L : List Nat) (w : World) (h : RdS w w.heap.size 1 A n c (rowsV f8 L)) (hb : ∀ b ∈ L, b < 256) (h19 : 19 ≤ n) (h16 : n ≤ 16403) (hS : sealB L = false)  :
    Calls Try.prog 39 #[.slice A n c] w fun e w' => e = .returned (.tuple #[.agg (frCells zeroF none 0 0).toArray, .int .i64 2]) ∧ Below w.heap.size w w' := by
  have hl := h.rlen f8_len (by decide)
  obtain ⟨E, hE4⟩ : ∃ E : Nat, E + 4 = n := ⟨n - 4, by omega⟩
  have hEn : E ≤ n := by omega
  have hnc := h.le
  have hEc : E ≤ c := by omega
  have hE1 : 15 ≤ E := by omega
  have hE2 : E ≤ 16399 := by omega

  have hx1 := h.take_ E hEn
  have hx2 := h.low_ hEn
  rw [← rowsV_take f8 f8_len] at hx1
  rw [← rowsV_drop f8 f8_len] at hx2
  obtain ⟨A2, gA2⟩ : ∃ x, (if c = E then A else A.map (·.add (E * 1))) = x := ⟨_, rfl⟩
  obtain ⟨n2, gn2⟩ : ∃ x, n - E = x := ⟨_, rfl⟩
  obtain ⟨c2, gc2⟩ : ∃ x, c - E = x := ⟨_, rfl⟩
  obtain ⟨K, gK⟩ : ∃ x, L.take E = x := ⟨_, rfl⟩
  obtain ⟨D, gD⟩ : ∃ x, L.drop E = x := ⟨_, rfl⟩
  have hbK : ∀ b ∈ K, b < 256 := by rw [← gK]; exact fun b hm => hb b (List.mem_of_mem_take hm)
  have hbD : ∀ b ∈ D, b < 256 := by rw [← gD]; exact fun b hm => hb b (List.mem_of_mem_drop hm)
  have hbool : ((txt (le4 (crc K))).toList == (txt D).toList) = false := by
    rw [txt_eq (le4_lt _) hbD, ← hS]
    unfold sealB
    rw [hl, show n - 4 = E by omega, gK, gD]
  rw [gK] at hx1
  rw [gA2, gn2, gc2, gD] at hx2
  have HEq := Lib.hid hbool
  have HbK := Lib.hid hbK
  have HA2 := Lib.hid gA2
  have Hn2 := Lib.hid gn2
  have Hc2 := Lib.hid gc2
  have HR0 := Lib.hid h
  have HK0 := Lib.hid hx1
  have HD0 := Lib.hid hx2
  have s4 : (n : Int) - 4 = (E : Int) := by omega
  have s5 : IntKind.i64.wrap (E : Int) = (E : Int) := IntWalk.i64_in _ (by omega)
  have t1 : decide ((E : Int) < 15) = false := decide_eq_false (by omega)
  have t2 : decide (16399 < (E : Int)) = false := decide_eq_false (by omega)
  clear hbool hbK hbD gA2 gn2 gc2 gK gD hx1 hx2 hb hS hl h19 h16 hE4 h
  have HO0 : RowKit.Hid (Whole (w.alloc (.cells #[.int .i64 0, .int .i64 0, .int .i64 0, .int .i64 0, .int .i64 0, .int .i64 0, .slice none 0 0] 34)) w.heap.size 34 [.int .i64 0, .int .i64 0, .int .i64 0, .int .i64 0, .int .i64 0, .int .i64 0, .slice none 0 0]) := Lib.hid (Whole.new_ _ _ _)
  have HB0 : RowKit.Hid (Below w.heap.size w (w.alloc (.cells #[.int .i64 0, .int .i64 0, .int .i64 0, .int .i64 0, .int .i64 0, .int .i64 0, .slice none 0 0] 34))) := Lib.hid (below1 _ _)
  go_enter Try.func39, Try.ntmps39
  go_upto_region 2 with fail
  clear s4 s5
  obtain ⟨W1, gW1⟩ : ∃ x, w.alloc (.cells #[.int .i64 0, .int .i64 0, .int .i64 0, .int .i64 0, .int .i64 0, .int .i64 0, .slice none 0 0] 34) = x := ⟨_, rfl⟩
  obtain ⟨g0, gg0⟩ : ∃ x, w.heap.size = x := ⟨_, rfl⟩
  have HG0 : RowKit.Hid (w.heap.size ≤ g0 ∧ g0 ≤ w.heap.size) := Lib.hid ⟨Nat.le_of_eq gg0, Nat.le_of_eq gg0.symm⟩
  rw [gW1] at HO0 HB0 ⊢
  rw [gg0] at HO0 ⊢
  clear gW1 gg0
  have HK1 := Lib.hid (HK0.out.bl HB0.out)
  have HD1 := Lib.hid (HD0.out.bl HB0.out)
  refine wp_region_reg (Nil_) (by kernel_rfl) ?_
  apply wpR_next 0 (some 9)
  · simp only [List.getElem?_toArray, List.getElem?_cons_succ, List.getElem?_cons_zero]; exact rfl
  · rfl
  · kernel_rfl
  · kernel_rfl
  · kernel_rfl
  · exact fun _ _ _ _ h => h
  apply Exists.intro
  apply And.intro
  · apply yr_run; rfl; intro w' hw'; go_simp; (try with_reducible rfl)
  simp only [Act.put, List.setIfInBounds_toArray, List.set_cons_zero, List.set_cons_succ]
  apply wpR_next 1 (some 10)
  · simp only [List.getElem?_toArray, List.getElem?_cons_succ, List.getElem?_cons_zero]; exact rfl
  · rfl
  · kernel_rfl
  · kernel_rfl
  · kernel_rfl
  · exact fun _ _ _ _ h => h
  apply Exists.intro
  apply And.intro
  · apply yr_run; rfl; intro w' hw'; go_simp; (try with_reducible rfl)
  simp only [Act.put, List.setIfInBounds_toArray, List.set_cons_zero, List.set_cons_succ]
  apply wpR_next 2 (some 11)
  · simp only [List.getElem?_toArray, List.getElem?_cons_succ, List.getElem?_cons_zero]; exact rfl
  · rfl
  · kernel_rfl
  · kernel_rfl
  · kernel_rfl
  · exact fun _ _ _ _ h => h
  apply Exists.intro
  apply And.intro
  · apply yr_run; rfl; intro w' hw'; go_simp; (try with_reducible rfl)
  simp only [Act.put, List.setIfInBounds_toArray, List.set_cons_zero, List.set_cons_succ]
  apply wpR_next 3 (some 12)
  · simp only [List.getElem?_toArray, List.getElem?_cons_succ, List.getElem?_cons_zero]; exact rfl
  · rfl
  · kernel_rfl
  · kernel_rfl
  · kernel_rfl
  · exact fun _ _ _ _ h => h
  apply Exists.intro
  apply And.intro
  · apply yr_run; rfl; intro w' hw'; go_simp; (try with_reducible rfl)
  simp only [Act.put, List.setIfInBounds_toArray, List.set_cons_zero, List.set_cons_succ]
  apply wpR_next 4 (some 13)
  · simp only [List.getElem?_toArray, List.getElem?_cons_succ, List.getElem?_cons_zero]; exact rfl
  · rfl
  · kernel_rfl
  · kernel_rfl
  · kernel_rfl
  · exact fun _ _ _ _ h => h
  apply Exists.intro
  apply And.intro
  · apply yr_run; rfl; intro w' hw'; go_simp; (try with_reducible rfl)
  simp only [Act.put, List.setIfInBounds_toArray, List.set_cons_zero, List.set_cons_succ]
  apply wpR_next 5 (some 14)
  · simp only [List.getElem?_toArray, List.getElem?_cons_succ, List.getElem?_cons_zero]; exact rfl
  · rfl
  · kernel_rfl
  · kernel_rfl
  · kernel_rfl
  · exact fun _ _ _ _ h => h
  apply Exists.intro
  apply And.intro
  · apply yr_run; rfl; intro w' hw'; go_simp; (try with_reducible rfl)
  simp only [Act.put, List.setIfInBounds_toArray, List.set_cons_zero, List.set_cons_succ]
  apply wpR_next 6 (some 15)
  · simp only [List.getElem?_toArray, List.getElem?_cons_succ, List.getElem?_cons_zero]; exact rfl
  · rfl
  · kernel_rfl
  · kernel_rfl
  · kernel_rfl
  · exact fun _ _ _ _ h => h
  apply Exists.intro
  apply And.intro
  · apply yr_run; rfl; intro w' hw'; go_simp; (try with_reducible rfl)
  simp only [Act.put, List.setIfInBounds_toArray, List.set_cons_zero, List.set_cons_succ]
  apply wpR_next 7 (some 16)
  · simp only [List.getElem?_toArray, List.getElem?_cons_succ, List.getElem?_cons_zero]; exact rfl
  · rfl
  · kernel_rfl
  · kernel_rfl
  · kernel_rfl
  · exact fun _ _ _ _ h => h
  apply Exists.intro
  apply And.intro
  · apply yr_run; rfl; intro w' hw'; go_simp; (try with_reducible rfl)
  simp only [Act.put, List.setIfInBounds_toArray, List.set_cons_zero, List.set_cons_succ]
  apply wpR_next 8 (some 17)
  · simp only [List.getElem?_toArray, List.getElem?_cons_succ, List.getElem?_cons_zero]; exact rfl
  · rfl
  · kernel_rfl
  · kernel_rfl
  · kernel_rfl
  · exact fun _ _ _ _ h => h
  apply Exists.intro
  apply And.intro
  · apply yr_run; rfl; intro w' hw'; go_simp; (try with_reducible rfl)
  simp only [Act.put, List.setIfInBounds_toArray, List.set_cons_zero, List.set_cons_succ]
  apply wpR_next 9 (some 18)
  · simp only [List.getElem?_toArray, List.getElem?_cons_succ, List.getElem?_cons_zero]; exact rfl
  · rfl
  · kernel_rfl
  · kernel_rfl
  · kernel_rfl
  · exact fun _ _ _ _ h => h
  apply Exists.intro
  apply And.intro
  · exact yr_run (by rfl) (fun w' h => exec_slice_high 32 5 (.tmp 16) (.tmp 17) rfl Try.underlying32 (s := 1) (by kernel_rfl) rfl rfl hEc)
  simp only [Act.put, List.setIfInBounds_toArray, List.set_cons_zero, List.set_cons_succ]
  apply wpR_next 11 (some 20)
  · simp only [List.getElem?_toArray, List.getElem?_cons_succ, List.getElem?_cons_zero]; exact rfl
  · rfl
  · kernel_rfl
  · kernel_rfl
  · kernel_rfl
  · exact fun _ _ _ _ h => h
  apply Exists.intro
  apply And.intro
  · apply yr_run; rfl; intro w' hw'; go_simp; (try with_reducible rfl)
  simp only [Act.put, List.setIfInBounds_toArray, List.set_cons_zero, List.set_cons_succ]
  apply wpR_next 12 (some 21)
  · simp only [List.getElem?_toArray, List.getElem?_cons_succ, List.getElem?_cons_zero]; exact rfl
  · rfl
  · kernel_rfl
  · kernel_rfl
  · kernel_rfl
  · exact fun _ _ _ _ h => h
  apply Exists.intro
  apply And.intro
  · apply yr_run; rfl; intro w' hw'; go_simp; (try with_reducible rfl)
  simp only [Act.put, List.setIfInBounds_toArray, List.set_cons_zero, List.set_cons_succ]
  apply wpR_next 13 (some 22)
  · simp only [List.getElem?_toArray, List.getElem?_cons_succ, List.getElem?_cons_zero]; exact rfl
  · rfl
  · kernel_rfl
  · kernel_rfl
  · kernel_rfl
  · exact fun _ _ _ _ h => h
  apply Exists.intro
  apply And.intro
  · exact yr_run (by rfl) (fun w' h => exec_slice_low_as 32 5 (.tmp 20) (.tmp 21) rfl Try.underlying32 (s := 1) (by kernel_rfl) rfl rfl hEn HA2.out Hn2.out Hc2.out)
  simp only [Act.put, List.setIfInBounds_toArray, List.set_cons_zero, List.set_cons_succ]
  apply wpR_call 10 (some 19)
  · simp only [List.getElem?_toArray, List.getElem?_cons_succ, List.getElem?_cons_zero]; exact rfl
  · rfl
  · kernel_rfl
  · rfl
  · intro w'; go_simp; first | done | exact ⟨rfl, rfl⟩ | with_reducible rfl
  intro w' hw'
  refine (sumbytes_any A E c K w' (HK1.out.dr.bl hw') HbK.out (by unfold maxLen; omega)).mono ?_
  rintro e w'' ⟨g, rfl, hg, hwh, hbl⟩
  have hd2 := (HD1.out.dr.bl hw').bl hbl
  have HQ : RowKit.Hid (∀ w1, Kept Nil_ w'' w1 → Calls Try.prog 53 #[.slice (some ⟨g, 0, none⟩) 4 4, .slice A2 n2 c2] w1 fun e w3 => e = .returned (.bool false) ∧ Below w1.heap.size w1 w3) := Lib.hid (fun w1 hk => have hB : Below w''.heap.size w'' w1 := hk.below (Nat.le_refl _) (fun _ _ h => h); equal_b _ A2 4 4 n2 c2 _ D w1 ((RdS.of_whole hwh rfl).bl hB) (hd2.bl hB) HEq.out)
  refine ⟨_, rfl, Kept.of_below hbl, ?_⟩
  have HX : RowKit.Hid (Ext W1.drew w'') := Lib.hid (Ext.trans hw' hbl)
  obtain ⟨V2, gV2⟩ : ∃ x, w'' = x := ⟨_, rfl⟩
  rw [gV2] at HX HQ ⊢
  clear hw' hbl hwh hg hd2 gV2
  simp only [Act.put, List.setIfInBounds_toArray, List.set_cons_zero, List.set_cons_succ]
  apply wpR_next 14 (some 23)
  · simp only [List.getElem?_toArray, List.getElem?_cons_succ, List.getElem?_cons_zero]; exact rfl
  · rfl
  · kernel_rfl
  · kernel_rfl
  · kernel_rfl
  · exact fun _ _ _ _ h => h
  apply Exists.intro
  apply And.intro
  · apply yr_call; rfl; rotate_left; intro w' hw'; exact HQ.out w' hw'; intro w'; go_simp
  simp only [Act.put, List.setIfInBounds_toArray, List.set_cons_zero, List.set_cons_succ]
  apply wpR_next 15 (some 24)
  · simp only [List.getElem?_toArray, List.getElem?_cons_succ, List.getElem?_cons_zero]; exact rfl
  · rfl
  · kernel_rfl
  · kernel_rfl
  · kernel_rfl
  · exact fun _ _ _ _ h => h
  apply Exists.intro
  apply And.intro
  · apply yr_run; rfl; intro w' hw'; go_simp; (try with_reducible rfl)
  simp only [Act.put, List.setIfInBounds_toArray, List.set_cons_zero, List.set_cons_succ]
  apply wpR_next 16 (some 25)
  · simp only [List.getElem?_toArray, List.getElem?_cons_succ, List.getElem?_cons_zero]; exact rfl
  · rfl
  · kernel_rfl
  · kernel_rfl
  · kernel_rfl
  · exact fun _ _ _ _ h => h
  apply Exists.intro
  apply And.intro
  · apply yr_run; rfl; intro w' hw'; go_simp; (try with_reducible rfl)
  simp only [Act.put, List.setIfInBounds_toArray, List.set_cons_zero, List.set_cons_succ]
  refine wpR_done (by kernel_rfl) ?_ _
  intro W2 hw2
  have HX2 : RowKit.Hid (Ext W1 W2) := Lib.hid (Ext.trans ((Below.refl _ _).drew) (Ext.trans HX.out hw2))
  clear hw2 HX HQ HK1 HD1 HK0 HD0
  have HO2 := Lib.hid (HO0.out.below HX2.out)
  have HB2 : RowKit.Hid (Below w.heap.size w W2) := Lib.hid (bel_bl HB0.out HX2.out)
  have HG1 : RowKit.Hid (g0 < W2.heap.size) := Lib.hid HO2.out.lt
  clear HO0 HB0 HX2
  go_upto_region 3 with fail
  refine wp_region_lit ?_
  refine wl_read (v := ?_) (some 26) rfl (by rfl) ?_ ?_
  rotate_left
  · go_simp; (try with_reducible rfl)
  simp only [Act.put, List.setIfInBounds_toArray, List.set_cons_zero, List.set_cons_succ]
  refine wpList_store_row rfl 34 (.tmp 2) (.tmp 26) rfl g0 #[.int .i64 0, .int .i64 0, .int .i64 0, .int .i64 0, .int .i64 0, .int .i64 0, .slice none 0 0] rfl rfl 34 #[.int .i64 0, .int .i64 0, .int .i64 0, .int .i64 0, .int .i64 0, .int .i64 0, .slice none 0 0] HO2.out (by kernel_rfl) rfl (by simp [Value.oneCell']) ?_
  have HO9 : RowKit.Hid (Whole (W2.setRow g0 #[.int .i64 0, .int .i64 0, .int .i64 0, .int .i64 0, .int .i64 0, .int .i64 0, .slice none 0 0]) g0 34 [.int .i64 0, .int .i64 0, .int .i64 0, .int .i64 0, .int .i64 0, .int .i64 0, .slice none 0 0]) := Lib.hid (setRow_heap W2 g0 _ _ _ _ HO2.out)
  have HB9 : RowKit.Hid (Below w.heap.size w (W2.setRow g0 #[.int .i64 0, .int .i64 0, .int .i64 0, .int .i64 0, .int .i64 0, .int .i64 0, .slice none 0 0])) := Lib.hid (below_row HB2.out HG0.out.1 _)
  obtain ⟨W9, gW9⟩ : ∃ x, W2.setRow g0 #[.int .i64 0, .int .i64 0, .int .i64 0, .int .i64 0, .int .i64 0, .int .i64 0, .slice none 0 0] = x := ⟨_, rfl⟩
  rw [gW9] at HO9 HB9 ⊢
  clear gW9 HO2 HB2
  have x0 := HO9.out.cell (i := 0) rfl
  have x1 := HO9.out.cell (i := 1) rfl
  have x2 := HO9.out.cell (i := 2) rfl
  have x3 := HO9.out.cell (i := 3) rfl
  have x4 := HO9.out.cell (i := 4) rfl
  have x5 := HO9.out.cell (i := 5) rfl
  have x6 := HO9.out.cell (i := 6) rfl
  go_wp2
  refine bodyPost_ret (v := .tuple #[.agg #[.int .i64 0, .int .i64 0, .int .i64 0, .int .i64 0, .int .i64 0, .int .i64 0, .slice none 0 0], .int .i64 2]) (by simp [results, Try.results39, go_sem, x0, x1, x2, x3, x4, x5, x6]) rfl ⟨rfl, HB9.out⟩
set_option maxRecDepth 100000 in
set_option maxHeartbeats 4000000 in
theorem take_d {z : Int} (A : Option Addr) (n c : Nat) (L : List Nat) (w : World) (h : RdS w w.heap.size 1 A n c (rowsV f8 L)) (hb : ∀ b ∈ L, b < 256) (h19 : 19 ≤ n) (h16 : n ≤ 16403) (hS : sealB L = true) (hm : mayF (frOf L) (bodyOf L).length = z) :
    Calls Try.prog 39 #[.slice A n c] w (GivesT w L) := by
  have hl := h.rlen f8_len (by decide)
  obtain ⟨E, hE4⟩ : ∃ E : Nat, E + 4 = n := ⟨n - 4, by omega⟩
  have hEn : E ≤ n := by omega
  have hnc := h.le
  have hEc : E ≤ c := by omega
  have hE1 : 15 ≤ E := by omega
  have hE2 : E ≤ 16399 := by omega
  obtain ⟨bb, off, rfl, hbB, -⟩ := h.place f8_len (by decide) (by omega)
  obtain ⟨a0, a1, a2, a3, a4, a5, a6, a7, a8, a9, b0, b1, b2, b3, b4, R, hL⟩ := heads (L := L) (by omega)
  have e0 : (rowsV f8 L)[0]? = some (.int .u8 (a0 : Int)) := by rw [hL]; rfl
  have e1 : (rowsV f8 L)[1]? = some (.int .u8 (a1 : Int)) := by rw [hL]; rfl
  have e2 : (rowsV f8 L)[2]? = some (.int .u8 (a2 : Int)) := by rw [hL]; rfl
  have e3 : (rowsV f8 L)[3]? = some (.int .u8 (a3 : Int)) := by rw [hL]; rfl
  have e4 : (rowsV f8 L)[4]? = some (.int .u8 (a4 : Int)) := by rw [hL]; rfl
  have e5 : (rowsV f8 L)[5]? = some (.int .u8 (a5 : Int)) := by rw [hL]; rfl
  have e6 : (rowsV f8 L)[6]? = some (.int .u8 (a6 : Int)) := by rw [hL]; rfl
  have e7 : (rowsV f8 L)[7]? = some (.int .u8 (a7 : Int)) := by rw [hL]; rfl
  have e8 : (rowsV f8 L)[8]? = some (.int .u8 (a8 : Int)) := by rw [hL]; rfl
  have e9 : (rowsV f8 L)[9]? = some (.int .u8 (a9 : Int)) := by rw [hL]; rfl
  have e10 : (rowsV f8 L)[10]? = some (.int .u8 (b0 : Int)) := by rw [hL]; rfl
  have e11 : (rowsV f8 L)[11]? = some (.int .u8 (b1 : Int)) := by rw [hL]; rfl
  have e12 : (rowsV f8 L)[12]? = some (.int .u8 (b2 : Int)) := by rw [hL]; rfl
  have e13 : (rowsV f8 L)[13]? = some (.int .u8 (b3 : Int)) := by rw [hL]; rfl
  have e14 : (rowsV f8 L)[14]? = some (.int .u8 (b4 : Int)) := by rw [hL]; rfl
  have k0 : a0 < 256 := hb _ (by rw [hL]; simp)
  have k1 : a1 < 256 := hb _ (by rw [hL]; simp)
  have k2 : a2 < 256 := hb _ (by rw [hL]; simp)
  have k3 : a3 < 256 := hb _ (by rw [hL]; simp)
  have k4 : a4 < 256 := hb _ (by rw [hL]; simp)
  have k5 : a5 < 256 := hb _ (by rw [hL]; simp)
  have k6 : a6 < 256 := hb _ (by rw [hL]; simp)
  have k7 : a7 < 256 := hb _ (by rw [hL]; simp)
  have k8 : a8 < 256 := hb _ (by rw [hL]; simp)
  have k9 : a9 < 256 := hb _ (by rw [hL]; simp)
  have k10 : b0 < 256 := hb _ (by rw [hL]; simp)
  have k11 : b1 < 256 := hb _ (by rw [hL]; simp)
  have k12 : b2 < 256 := hb _ (by rw [hL]; simp)
  have k13 : b3 < 256 := hb _ (by rw [hL]; simp)
  have k14 : b4 < 256 := hb _ (by rw [hL]; simp)
  have hfr : frOf L = (⟨(a0 : Int), (a1 : Int), (a2 : Int), num4 a3 a4 a5 a6, num4 a7 a8 a9 b0, num4 b1 b2 b3 b4⟩ : FrT) := by rw [hL]; rfl
  have hbd : bodyOf L = (L.take E).drop 15 := by unfold bodyOf; rw [hl, show n - 4 = E by omega]
  have hx3 := (h.take_ E hEn).low_ hE1
  rw [← rowsV_take f8 f8_len, ← rowsV_drop f8 f8_len, ← hbd] at hx3
  have hbl := hx3.rlen f8_len (by decide)
  obtain ⟨Bd, gBd⟩ : ∃ x, bodyOf L = x := ⟨_, rfl⟩
  rw [gBd] at hx3 hbl hm
  rw [hfr] at hm
  rw [← hbl] at hx3
  have HBl := Lib.hid hbl.symm
  have HBd := Lib.hid gBd
  obtain ⟨cB, gcB⟩ : ∃ x, c - 15 = x := ⟨_, rfl⟩
  have gaB : (if c = 15 then some (⟨bb, off, none⟩ : Addr) else (some (⟨bb, off, none⟩ : Addr)).map (·.add (15 * 1))) = some ⟨bb, off + 15, none⟩ := by rw [if_neg (by omega)]; simp [Addr.add_lit]
  rw [gcB, gaB] at hx3
  have HcB := Lib.hid gcB
  have HaB := Lib.hid gaB
  have HBX := Lib.hid hx3
  have HFr := Lib.hid hfr
  have hBm : Bd.length ≤ 16384 := by omega
  have HbB := Lib.hid hbB
  have hy3 := h.low_ (show 3 ≤ n by omega)
  rw [← rowsV_drop f8 f8_len, if_neg (by omega)] at hy3
  have HY3 : RowKit.Hid (RdS w w.heap.size 1 (some ⟨bb, off + 3, none⟩) (n - 3) (c - 3) (rowsV f8 (L.drop 3))) := Lib.hid (by simpa [Addr.add_lit] using hy3)
  have HN3 : RowKit.Hid (∀ w', RdS w' w'.heap.size 1 (some ⟨bb, off + 3, none⟩) (n - 3) (c - 3) (rowsV f8 (L.drop 3)) → Calls Try.prog 54 #[.slice (some ⟨bb, off + 3, none⟩) (n - 3) (c - 3)] w' fun e w'' => e = .returned (.int .i64 (num4 a3 a4 a5 a6)) ∧ Below w'.heap.size w' w'') := Lib.hid (fun w' hr =>
    (number_any bb (off + 3) (n - 3) (c - 3) (L.drop 3) a3 a4 a5 a6 w' hr (by omega) (by rw [hL]; rfl) (by rw [hL]; rfl) (by rw [hL]; rfl) (by rw [hL]; rfl) k3 k4 k5 k6).mono fun e w'' h => ⟨h.1, h.2 ▸ Below.refl _ _⟩)
  have HA3 : RowKit.Hid ((if c = 3 then some (⟨bb, off, none⟩ : Addr) else (some (⟨bb, off, none⟩ : Addr)).map (·.add (3 * 1))) = some ⟨bb, off + 3, none⟩) := Lib.hid (by rw [if_neg (by omega)]; simp [Addr.add_lit])
  have hN3 : 3 ≤ n := by omega
  have hy7 := h.low_ (show 7 ≤ n by omega)
  rw [← rowsV_drop f8 f8_len, if_neg (by omega)] at hy7
  have HY7 : RowKit.Hid (RdS w w.heap.size 1 (some ⟨bb, off + 7, none⟩) (n - 7) (c - 7) (rowsV f8 (L.drop 7))) := Lib.hid (by simpa [Addr.add_lit] using hy7)
  have HN7 : RowKit.Hid (∀ w', RdS w' w'.heap.size 1 (some ⟨bb, off + 7, none⟩) (n - 7) (c - 7) (rowsV f8 (L.drop 7)) → Calls Try.prog 54 #[.slice (some ⟨bb, off + 7, none⟩) (n - 7) (c - 7)] w' fun e w'' => e = .returned (.int .i64 (num4 a7 a8 a9 b0)) ∧ Below w'.heap.size w' w'') := Lib.hid (fun w' hr =>
    (number_any bb (off + 7) (n - 7) (c - 7) (L.drop 7) a7 a8 a9 b0 w' hr (by omega) (by rw [hL]; rfl) (by rw [hL]; rfl) (by rw [hL]; rfl) (by rw [hL]; rfl) k7 k8 k9 k10).mono fun e w'' h => ⟨h.1, h.2 ▸ Below.refl _ _⟩)
  have HA7 : RowKit.Hid ((if c = 7 then some (⟨bb, off, none⟩ : Addr) else (some (⟨bb, off, none⟩ : Addr)).map (·.add (7 * 1))) = some ⟨bb, off + 7, none⟩) := Lib.hid (by rw [if_neg (by omega)]; simp [Addr.add_lit])
  have hN7 : 7 ≤ n := by omega
  have hy11 := h.low_ (show 11 ≤ n by omega)
  rw [← rowsV_drop f8 f8_len, if_neg (by omega)] at hy11
  have HY11 : RowKit.Hid (RdS w w.heap.size 1 (some ⟨bb, off + 11, none⟩) (n - 11) (c - 11) (rowsV f8 (L.drop 11))) := Lib.hid (by simpa [Addr.add_lit] using hy11)
  have HN11 : RowKit.Hid (∀ w', RdS w' w'.heap.size 1 (some ⟨bb, off + 11, none⟩) (n - 11) (c - 11) (rowsV f8 (L.drop 11)) → Calls Try.prog 54 #[.slice (some ⟨bb, off + 11, none⟩) (n - 11) (c - 11)] w' fun e w'' => e = .returned (.int .i64 (num4 b1 b2 b3 b4)) ∧ Below w'.heap.size w' w'') := Lib.hid (fun w' hr =>
    (number_any bb (off + 11) (n - 11) (c - 11) (L.drop 11) b1 b2 b3 b4 w' hr (by omega) (by rw [hL]; rfl) (by rw [hL]; rfl) (by rw [hL]; rfl) (by rw [hL]; rfl) k11 k12 k13 k14).mono fun e w'' h => ⟨h.1, h.2 ▸ Below.refl _ _⟩)
  have HA11 : RowKit.Hid ((if c = 11 then some (⟨bb, off, none⟩ : Addr) else (some (⟨bb, off, none⟩ : Addr)).map (·.add (11 * 1))) = some ⟨bb, off + 11, none⟩) := Lib.hid (by rw [if_neg (by omega)]; simp [Addr.add_lit])
  have hN11 : 11 ≤ n := by omega
  have wk0 : IntKind.i64.wrap (a0 : Int) = (a0 : Int) := IntWalk.i64_in _ (by omega)
  have nn0 : 0 < n := by omega
  have wk1 : IntKind.i64.wrap (a1 : Int) = (a1 : Int) := IntWalk.i64_in _ (by omega)
  have nn1 : (1 : Int) < (n : Int) := by omega
  have wk2 : IntKind.i64.wrap (a2 : Int) = (a2 : Int) := IntWalk.i64_in _ (by omega)
  have nn2 : (2 : Int) < (n : Int) := by omega
  clear e3 k3 e4 k4 e5 k5 e6 k6 e7 k7 e8 k8 e9 k9 e10 k10 e11 k11 e12 k12 e13 k13 e14 k14 k0 k1 k2 hbd hx3 hbl gBd gcB gaB hfr hbB hy3 hy7 hy11 hL
  have hx1 := h.take_ E hEn
  have hx2 := h.low_ hEn
  rw [← rowsV_take f8 f8_len] at hx1
  rw [← rowsV_drop f8 f8_len] at hx2
  obtain ⟨A2, gA2⟩ : ∃ x, (if c = E then some (⟨bb, off, none⟩ : Addr) else (some (⟨bb, off, none⟩ : Addr)).map (·.add (E * 1))) = x := ⟨_, rfl⟩
  obtain ⟨n2, gn2⟩ : ∃ x, n - E = x := ⟨_, rfl⟩
  obtain ⟨c2, gc2⟩ : ∃ x, c - E = x := ⟨_, rfl⟩
  obtain ⟨K, gK⟩ : ∃ x, L.take E = x := ⟨_, rfl⟩
  obtain ⟨D, gD⟩ : ∃ x, L.drop E = x := ⟨_, rfl⟩
  have hbK : ∀ b ∈ K, b < 256 := by rw [← gK]; exact fun b hm => hb b (List.mem_of_mem_take hm)
  have hbD : ∀ b ∈ D, b < 256 := by rw [← gD]; exact fun b hm => hb b (List.mem_of_mem_drop hm)
  have hbool : ((txt (le4 (crc K))).toList == (txt D).toList) = true := by
    rw [txt_eq (le4_lt _) hbD, ← hS]
    unfold sealB
    rw [hl, show n - 4 = E by omega, gK, gD]
  rw [gK] at hx1
  rw [gA2, gn2, gc2, gD] at hx2
  have HOk : RowKit.Hid (okF L = decide (mayF (⟨(a0 : Int), (a1 : Int), (a2 : Int), num4 a3 a4 a5 a6, num4 a7 a8 a9 b0, num4 b1 b2 b3 b4⟩ : FrT) Bd.length = 0)) := Lib.hid (by unfold okF; rw [hS, HBd.out, HFr.out, decide_eq_true (by omega : 19 ≤ L.length ∧ L.length ≤ 16403)]; simp)
  have HEq := Lib.hid hbool
  have HbK := Lib.hid hbK
  have HA2 := Lib.hid gA2
  have Hn2 := Lib.hid gn2
  have Hc2 := Lib.hid gc2
  have HR0 := Lib.hid h
  have HK0 := Lib.hid hx1
  have HD0 := Lib.hid hx2
  have s4 : (n : Int) - 4 = (E : Int) := by omega
  have s5 : IntKind.i64.wrap (E : Int) = (E : Int) := IntWalk.i64_in _ (by omega)
  have t1 : decide ((E : Int) < 15) = false := decide_eq_false (by omega)
  have t2 : decide (16399 < (E : Int)) = false := decide_eq_false (by omega)
  have HMz := Lib.hid hm
  clear hm hbool hbK hbD gA2 gn2 gc2 gK gD hx1 hx2 hb hS hl h19 h16 hE4 h
  have HO0 : RowKit.Hid (Whole (w.alloc (.cells #[.int .i64 0, .int .i64 0, .int .i64 0, .int .i64 0, .int .i64 0, .int .i64 0, .slice none 0 0] 34)) w.heap.size 34 [.int .i64 0, .int .i64 0, .int .i64 0, .int .i64 0, .int .i64 0, .int .i64 0, .slice none 0 0]) := Lib.hid (Whole.new_ _ _ _)
  have HB0 : RowKit.Hid (Below w.heap.size w (w.alloc (.cells #[.int .i64 0, .int .i64 0, .int .i64 0, .int .i64 0, .int .i64 0, .int .i64 0, .slice none 0 0] 34))) := Lib.hid (below1 _ _)
  go_enter Try.func39, Try.ntmps39
  go_upto_region 2 with fail
  clear s4 s5
  obtain ⟨W1, gW1⟩ : ∃ x, w.alloc (.cells #[.int .i64 0, .int .i64 0, .int .i64 0, .int .i64 0, .int .i64 0, .int .i64 0, .slice none 0 0] 34) = x := ⟨_, rfl⟩
  obtain ⟨g0, gg0⟩ : ∃ x, w.heap.size = x := ⟨_, rfl⟩
  have HG0 : RowKit.Hid (w.heap.size ≤ g0 ∧ g0 ≤ w.heap.size) := Lib.hid ⟨Nat.le_of_eq gg0, Nat.le_of_eq gg0.symm⟩
  rw [gW1] at HO0 HB0 ⊢
  rw [gg0] at HO0 ⊢
  clear gW1 gg0
  have HK1 := Lib.hid (HK0.out.bl HB0.out)
  have HD1 := Lib.hid (HD0.out.bl HB0.out)
  refine wp_region_reg (Nil_) (by kernel_rfl) ?_
  apply wpR_next 0 (some 9)
  · simp only [List.getElem?_toArray, List.getElem?_cons_succ, List.getElem?_cons_zero]; exact rfl
  · rfl
  · kernel_rfl
  · kernel_rfl
  · kernel_rfl
  · exact fun _ _ _ _ h => h
  apply Exists.intro
  apply And.intro
  · apply yr_run; rfl; intro w' hw'; go_simp; (try with_reducible rfl)
  simp only [Act.put, List.setIfInBounds_toArray, List.set_cons_zero, List.set_cons_succ]
  apply wpR_next 1 (some 10)
  · simp only [List.getElem?_toArray, List.getElem?_cons_succ, List.getElem?_cons_zero]; exact rfl
  · rfl
  · kernel_rfl
  · kernel_rfl
  · kernel_rfl
  · exact fun _ _ _ _ h => h
  apply Exists.intro
  apply And.intro
  · apply yr_run; rfl; intro w' hw'; go_simp; (try with_reducible rfl)
  simp only [Act.put, List.setIfInBounds_toArray, List.set_cons_zero, List.set_cons_succ]
  apply wpR_next 2 (some 11)
  · simp only [List.getElem?_toArray, List.getElem?_cons_succ, List.getElem?_cons_zero]; exact rfl
  · rfl
  · kernel_rfl
  · kernel_rfl
  · kernel_rfl
  · exact fun _ _ _ _ h => h
  apply Exists.intro
  apply And.intro
  · apply yr_run; rfl; intro w' hw'; go_simp; (try with_reducible rfl)
  simp only [Act.put, List.setIfInBounds_toArray, List.set_cons_zero, List.set_cons_succ]
  apply wpR_next 3 (some 12)
  · simp only [List.getElem?_toArray, List.getElem?_cons_succ, List.getElem?_cons_zero]; exact rfl
  · rfl
  · kernel_rfl
  · kernel_rfl
  · kernel_rfl
  · exact fun _ _ _ _ h => h
  apply Exists.intro
  apply And.intro
  · apply yr_run; rfl; intro w' hw'; go_simp; (try with_reducible rfl)
  simp only [Act.put, List.setIfInBounds_toArray, List.set_cons_zero, List.set_cons_succ]
  apply wpR_next 4 (some 13)
  · simp only [List.getElem?_toArray, List.getElem?_cons_succ, List.getElem?_cons_zero]; exact rfl
  · rfl
  · kernel_rfl
  · kernel_rfl
  · kernel_rfl
  · exact fun _ _ _ _ h => h
  apply Exists.intro
  apply And.intro
  · apply yr_run; rfl; intro w' hw'; go_simp; (try with_reducible rfl)
  simp only [Act.put, List.setIfInBounds_toArray, List.set_cons_zero, List.set_cons_succ]
  apply wpR_next 5 (some 14)
  · simp only [List.getElem?_toArray, List.getElem?_cons_succ, List.getElem?_cons_zero]; exact rfl
  · rfl
  · kernel_rfl
  · kernel_rfl
  · kernel_rfl
  · exact fun _ _ _ _ h => h
  apply Exists.intro
  apply And.intro
  · apply yr_run; rfl; intro w' hw'; go_simp; (try with_reducible rfl)
  simp only [Act.put, List.setIfInBounds_toArray, List.set_cons_zero, List.set_cons_succ]
  apply wpR_next 6 (some 15)
  · simp only [List.getElem?_toArray, List.getElem?_cons_succ, List.getElem?_cons_zero]; exact rfl
  · rfl
  · kernel_rfl
  · kernel_rfl
  · kernel_rfl
  · exact fun _ _ _ _ h => h
  apply Exists.intro
  apply And.intro
  · apply yr_run; rfl; intro w' hw'; go_simp; (try with_reducible rfl)
  simp only [Act.put, List.setIfInBounds_toArray, List.set_cons_zero, List.set_cons_succ]
  apply wpR_next 7 (some 16)
  · simp only [List.getElem?_toArray, List.getElem?_cons_succ, List.getElem?_cons_zero]; exact rfl
  · rfl
  · kernel_rfl
  · kernel_rfl
  · kernel_rfl
  · exact fun _ _ _ _ h => h
  apply Exists.intro
  apply And.intro
  · apply yr_run; rfl; intro w' hw'; go_simp; (try with_reducible rfl)
  simp only [Act.put, List.setIfInBounds_toArray, List.set_cons_zero, List.set_cons_succ]
  apply wpR_next 8 (some 17)
  · simp only [List.getElem?_toArray, List.getElem?_cons_succ, List.getElem?_cons_zero]; exact rfl
  · rfl
  · kernel_rfl
  · kernel_rfl
  · kernel_rfl
  · exact fun _ _ _ _ h => h
  apply Exists.intro
  apply And.intro
  · apply yr_run; rfl; intro w' hw'; go_simp; (try with_reducible rfl)
  simp only [Act.put, List.setIfInBounds_toArray, List.set_cons_zero, List.set_cons_succ]
  apply wpR_next 9 (some 18)
  · simp only [List.getElem?_toArray, List.getElem?_cons_succ, List.getElem?_cons_zero]; exact rfl
  · rfl
  · kernel_rfl
  · kernel_rfl
  · kernel_rfl
  · exact fun _ _ _ _ h => h
  apply Exists.intro
  apply And.intro
  · exact yr_run (by rfl) (fun w' h => exec_slice_high 32 5 (.tmp 16) (.tmp 17) rfl Try.underlying32 (s := 1) (by kernel_rfl) rfl rfl hEc)
  simp only [Act.put, List.setIfInBounds_toArray, List.set_cons_zero, List.set_cons_succ]
  apply wpR_next 11 (some 20)
  · simp only [List.getElem?_toArray, List.getElem?_cons_succ, List.getElem?_cons_zero]; exact rfl
  · rfl
  · kernel_rfl
  · kernel_rfl
  · kernel_rfl
  · exact fun _ _ _ _ h => h
  apply Exists.intro
  apply And.intro
  · apply yr_run; rfl; intro w' hw'; go_simp; (try with_reducible rfl)
  simp only [Act.put, List.setIfInBounds_toArray, List.set_cons_zero, List.set_cons_succ]
  apply wpR_next 12 (some 21)
  · simp only [List.getElem?_toArray, List.getElem?_cons_succ, List.getElem?_cons_zero]; exact rfl
  · rfl
  · kernel_rfl
  · kernel_rfl
  · kernel_rfl
  · exact fun _ _ _ _ h => h
  apply Exists.intro
  apply And.intro
  · apply yr_run; rfl; intro w' hw'; go_simp; (try with_reducible rfl)
  simp only [Act.put, List.setIfInBounds_toArray, List.set_cons_zero, List.set_cons_succ]
  apply wpR_next 13 (some 22)
  · simp only [List.getElem?_toArray, List.getElem?_cons_succ, List.getElem?_cons_zero]; exact rfl
  · rfl
  · kernel_rfl
  · kernel_rfl
  · kernel_rfl
  · exact fun _ _ _ _ h => h
  apply Exists.intro
  apply And.intro
  · exact yr_run (by rfl) (fun w' h => exec_slice_low_as 32 5 (.tmp 20) (.tmp 21) rfl Try.underlying32 (s := 1) (by kernel_rfl) rfl rfl hEn HA2.out Hn2.out Hc2.out)
  simp only [Act.put, List.setIfInBounds_toArray, List.set_cons_zero, List.set_cons_succ]
  apply wpR_call 10 (some 19)
  · simp only [List.getElem?_toArray, List.getElem?_cons_succ, List.getElem?_cons_zero]; exact rfl
  · rfl
  · kernel_rfl
  · rfl
  · intro w'; go_simp; first | done | exact ⟨rfl, rfl⟩ | with_reducible rfl
  intro w' hw'
  refine (sumbytes_any (some ⟨bb, off, none⟩) E c K w' (HK1.out.dr.bl hw') HbK.out (by unfold maxLen; omega)).mono ?_
  rintro e w'' ⟨g, rfl, hg, hwh, hbl⟩
  have hd2 := (HD1.out.dr.bl hw').bl hbl
  have HQ : RowKit.Hid (∀ w1, Kept Nil_ w'' w1 → Calls Try.prog 53 #[.slice (some ⟨g, 0, none⟩) 4 4, .slice A2 n2 c2] w1 fun e w3 => e = .returned (.bool true) ∧ Below w1.heap.size w1 w3) := Lib.hid (fun w1 hk => have hB : Below w''.heap.size w'' w1 := hk.below (Nat.le_refl _) (fun _ _ h => h); equal_b _ A2 4 4 n2 c2 _ D w1 ((RdS.of_whole hwh rfl).bl hB) (hd2.bl hB) HEq.out)
  refine ⟨_, rfl, Kept.of_below hbl, ?_⟩
  have HX : RowKit.Hid (Ext W1.drew w'') := Lib.hid (Ext.trans hw' hbl)
  obtain ⟨V2, gV2⟩ : ∃ x, w'' = x := ⟨_, rfl⟩
  rw [gV2] at HX HQ ⊢
  clear hw' hbl hwh hg hd2 gV2
  simp only [Act.put, List.setIfInBounds_toArray, List.set_cons_zero, List.set_cons_succ]
  apply wpR_next 14 (some 23)
  · simp only [List.getElem?_toArray, List.getElem?_cons_succ, List.getElem?_cons_zero]; exact rfl
  · rfl
  · kernel_rfl
  · kernel_rfl
  · kernel_rfl
  · exact fun _ _ _ _ h => h
  apply Exists.intro
  apply And.intro
  · apply yr_call; rfl; rotate_left; intro w' hw'; exact HQ.out w' hw'; intro w'; go_simp
  simp only [Act.put, List.setIfInBounds_toArray, List.set_cons_zero, List.set_cons_succ]
  apply wpR_next 15 (some 24)
  · simp only [List.getElem?_toArray, List.getElem?_cons_succ, List.getElem?_cons_zero]; exact rfl
  · rfl
  · kernel_rfl
  · kernel_rfl
  · kernel_rfl
  · exact fun _ _ _ _ h => h
  apply Exists.intro
  apply And.intro
  · apply yr_run; rfl; intro w' hw'; go_simp; (try with_reducible rfl)
  simp only [Act.put, List.setIfInBounds_toArray, List.set_cons_zero, List.set_cons_succ]
  apply wpR_next 16 (some 25)
  · simp only [List.getElem?_toArray, List.getElem?_cons_succ, List.getElem?_cons_zero]; exact rfl
  · rfl
  · kernel_rfl
  · kernel_rfl
  · kernel_rfl
  · exact fun _ _ _ _ h => h
  apply Exists.intro
  apply And.intro
  · apply yr_run; rfl; intro w' hw'; go_simp; (try with_reducible rfl)
  simp only [Act.put, List.setIfInBounds_toArray, List.set_cons_zero, List.set_cons_succ]
  refine wpR_done (by kernel_rfl) ?_ _
  intro W2 hw2
  have HX2 : RowKit.Hid (Ext W1 W2) := Lib.hid (Ext.trans ((Below.refl _ _).drew) (Ext.trans HX.out hw2))
  clear hw2 HX HQ HK1 HD1 HK0 HD0
  have HO2 := Lib.hid (HO0.out.below HX2.out)
  have HB2 : RowKit.Hid (Below w.heap.size w W2) := Lib.hid (bel_bl HB0.out HX2.out)
  have HG1 : RowKit.Hid (g0 < W2.heap.size) := Lib.hid HO2.out.lt
  clear HO0 HB0 HX2
  have HBX2 := Lib.hid (HBX.out.up HB2.out HB2.out.size)
  have HR2 := Lib.hid (HR0.out.up HB2.out HB2.out.size)
  have HbW : RowKit.Hid (bb < W2.heap.size) := Lib.hid (Nat.lt_of_lt_of_le HbB.out HB2.out.size)
  clear HBX HR0
  go_upto_region 4 with fail
  obtain ⟨B0, hB0⟩ : ∃ x, W2.heap.size = x := ⟨_, rfl⟩
  have HB0 := Lib.hid hB0
  have EX9 : RowKit.Hid (Ext W2 W2.drew) := Lib.hid ((Below.refl _ _).drew)
  clear hB0
  have lC0 : ∀ w', Kept (From_ B0) W2.drew w' → w'.cell? ⟨bb, off, none⟩ = some (.int .u8 (a0 : Int)) := fun w' h => h.from_cell (by have h1 := HbW.out; have h2 := HB0.out; show bb < B0; omega) (by have := HR2.out.cell _ rfl 0 _ e0; simpa [Addr.add] using this)
  have lC1 : ∀ w', Kept (From_ B0) W2.drew w' → w'.cell? ⟨bb, off + 1, none⟩ = some (.int .u8 (a1 : Int)) := fun w' h => h.from_cell (by have h1 := HbW.out; have h2 := HB0.out; show bb < B0; omega) (by have := HR2.out.cell _ rfl 1 _ e1; simpa [Addr.add] using this)
  have lC2 : ∀ w', Kept (From_ B0) W2.drew w' → w'.cell? ⟨bb, off + 2, none⟩ = some (.int .u8 (a2 : Int)) := fun w' h => h.from_cell (by have h1 := HbW.out; have h2 := HB0.out; show bb < B0; omega) (by have := HR2.out.cell _ rfl 2 _ e2; simpa [Addr.add] using this)
  refine wp_behind2 (fun a a' w' => ∃ (Ac : Option Addr) (cc g5 : Nat) (u27 u28 u29 u30 u31 u32 u33 u34 u35 u36 u37 u38 u39 u40 u41 u42 u43 : Value), a' = ((((((((((((((((((a.put (some 27) u27).put (some 28) u28).put (some 29) u29).put (some 30) u30).put (some 31) u31).put (some 32) u32).put (some 33) u33).put (some 34) u34).put (some 35) u35).put (some 36) u36).put (some 37) u37).put (some 38) u38).put (some 39) u39).put (some 40) u40).put (some 41) u41).put (some 42) u42).put (some 43) u43).put (some 5) (.pointer (some ⟨g5, 0, none⟩))) ∧ RowKit.Hid (Ext W2 w' ∧ W2.heap.size ≤ g5 ∧ Whole w' g5 34 [.int .i64 (a0 : Int), .int .i64 (a1 : Int), .int .i64 (a2 : Int), .int .i64 0, .int .i64 0, .int .i64 0, .slice Ac Bd.length cc] ∧ RdS w' w'.heap.size 1 Ac Bd.length cc (rowsV f8 Bd) ∧ (∀ a, Ac = some a → 0 < Bd.length → W2.heap.size ≤ a.block) ∧ (∀ a, Ac = some a → 0 < Bd.length → some a.block ≠ some g5))) ?_ ?_
  · refine wp_region_reg (From_ B0) (by kernel_rfl) ?_
    apply wpR_next 0 (some 27)
    · simp only [List.getElem?_toArray, List.getElem?_cons_succ, List.getElem?_cons_zero]; exact rfl
    · rfl
    · kernel_rfl
    · kernel_rfl
    · kernel_rfl
    · first | exact fun _ _ _ _ h => Exit.noConfusion h.1 | exact fun _ _ _ _ h => h
    apply Exists.intro
    apply And.intro
    · apply yr_run; rfl; intro w' hw'; go_simp; (try with_reducible rfl)
    simp only [Act.put, List.setIfInBounds_toArray, List.set_cons_zero, List.set_cons_succ]
    apply wpR_next 1 (some 28)
    · simp only [List.getElem?_toArray, List.getElem?_cons_succ, List.getElem?_cons_zero]; exact rfl
    · rfl
    · kernel_rfl
    · kernel_rfl
    · kernel_rfl
    · first | exact fun _ _ _ _ h => Exit.noConfusion h.1 | exact fun _ _ _ _ h => h
    apply Exists.intro
    apply And.intro
    · apply yr_run; rfl; intro w' hw'; go_simp; (try with_reducible rfl)
    simp only [Act.put, List.setIfInBounds_toArray, List.set_cons_zero, List.set_cons_succ]
    apply wpR_next 2 (some 29)
    · simp only [List.getElem?_toArray, List.getElem?_cons_succ, List.getElem?_cons_zero]; exact rfl
    · rfl
    · kernel_rfl
    · kernel_rfl
    · kernel_rfl
    · first | exact fun _ _ _ _ h => Exit.noConfusion h.1 | exact fun _ _ _ _ h => h
    apply Exists.intro
    apply And.intro
    · apply yr_run; rfl; intro w' hw'; go_simp; (try with_reducible rfl)
    simp only [Act.put, List.setIfInBounds_toArray, List.set_cons_zero, List.set_cons_succ]
    apply wpR_next 3 (some 30)
    · simp only [List.getElem?_toArray, List.getElem?_cons_succ, List.getElem?_cons_zero]; exact rfl
    · rfl
    · kernel_rfl
    · kernel_rfl
    · kernel_rfl
    · first | exact fun _ _ _ _ h => Exit.noConfusion h.1 | exact fun _ _ _ _ h => h
    apply Exists.intro
    apply And.intro
    · apply yr_run; rfl; intro w' hw'; go_simp; (try with_reducible rfl)
    simp only [Act.put, List.setIfInBounds_toArray, List.set_cons_zero, List.set_cons_succ]
    apply wpR_next 4 (some 31)
    · simp only [List.getElem?_toArray, List.getElem?_cons_succ, List.getElem?_cons_zero]; exact rfl
    · rfl
    · kernel_rfl
    · kernel_rfl
    · kernel_rfl
    · first | exact fun _ _ _ _ h => Exit.noConfusion h.1 | exact fun _ _ _ _ h => h
    apply Exists.intro
    apply And.intro
    · apply yr_run; rfl; intro w' hw'; go_simp; (try with_reducible rfl)
    simp only [Act.put, List.setIfInBounds_toArray, List.set_cons_zero, List.set_cons_succ]
    apply wpR_next 5 (some 32)
    · simp only [List.getElem?_toArray, List.getElem?_cons_succ, List.getElem?_cons_zero]; exact rfl
    · rfl
    · kernel_rfl
    · kernel_rfl
    · kernel_rfl
    · first | exact fun _ _ _ _ h => Exit.noConfusion h.1 | exact fun _ _ _ _ h => h
    apply Exists.intro
    apply And.intro
    · apply yr_run; rfl; intro w' hw'; go_simp; (try with_reducible rfl)
    simp only [Act.put, List.setIfInBounds_toArray, List.set_cons_zero, List.set_cons_succ]
    apply wpR_next 6 (some 33)
    · simp only [List.getElem?_toArray, List.getElem?_cons_succ, List.getElem?_cons_zero]; exact rfl
    · rfl
    · kernel_rfl
    · kernel_rfl
    · kernel_rfl
    · first | exact fun _ _ _ _ h => Exit.noConfusion h.1 | exact fun _ _ _ _ h => h
    apply Exists.intro
    apply And.intro
    · apply yr_run; rfl; intro w' hw'; go_simp; (try with_reducible rfl)
    simp only [Act.put, List.setIfInBounds_toArray, List.set_cons_zero, List.set_cons_succ]
    apply wpR_next 7 (some 34)
    · simp only [List.getElem?_toArray, List.getElem?_cons_succ, List.getElem?_cons_zero]; exact rfl
    · rfl
    · kernel_rfl
    · kernel_rfl
    · kernel_rfl
    · first | exact fun _ _ _ _ h => Exit.noConfusion h.1 | exact fun _ _ _ _ h => h
    apply Exists.intro
    apply And.intro
    · apply yr_run; rfl; intro w' hw'; go_simp; (try with_reducible rfl)
    simp only [Act.put, List.setIfInBounds_toArray, List.set_cons_zero, List.set_cons_succ]
    apply wpR_next 8 (some 35)
    · simp only [List.getElem?_toArray, List.getElem?_cons_succ, List.getElem?_cons_zero]; exact rfl
    · rfl
    · kernel_rfl
    · kernel_rfl
    · kernel_rfl
    · first | exact fun _ _ _ _ h => Exit.noConfusion h.1 | exact fun _ _ _ _ h => h
    apply Exists.intro
    apply And.intro
    · apply yr_run; rfl; intro w' hw'; go_simp; (try with_reducible rfl)
    simp only [Act.put, List.setIfInBounds_toArray, List.set_cons_zero, List.set_cons_succ]
    apply wpR_next 9 (some 36)
    · simp only [List.getElem?_toArray, List.getElem?_cons_succ, List.getElem?_cons_zero]; exact rfl
    · rfl
    · kernel_rfl
    · kernel_rfl
    · kernel_rfl
    · first | exact fun _ _ _ _ h => Exit.noConfusion h.1 | exact fun _ _ _ _ h => h
    apply Exists.intro
    apply And.intro
    · apply yr_run; rfl; intro w' hw'; go_simp; (try with_reducible rfl)
    simp only [Act.put, List.setIfInBounds_toArray, List.set_cons_zero, List.set_cons_succ]
    apply wpR_next 10 (some 37)
    · simp only [List.getElem?_toArray, List.getElem?_cons_succ, List.getElem?_cons_zero]; exact rfl
    · rfl
    · kernel_rfl
    · kernel_rfl
    · kernel_rfl
    · first | exact fun _ _ _ _ h => Exit.noConfusion h.1 | exact fun _ _ _ _ h => h
    apply Exists.intro
    apply And.intro
    · apply yr_run; rfl; intro w' hw'; go_simp; (try with_reducible rfl)
    simp only [Act.put, List.setIfInBounds_toArray, List.set_cons_zero, List.set_cons_succ]
    apply wpR_next 11 (some 38)
    · simp only [List.getElem?_toArray, List.getElem?_cons_succ, List.getElem?_cons_zero]; exact rfl
    · rfl
    · kernel_rfl
    · kernel_rfl
    · kernel_rfl
    · first | exact fun _ _ _ _ h => Exit.noConfusion h.1 | exact fun _ _ _ _ h => h
    apply Exists.intro
    apply And.intro
    · apply yr_run; rfl; intro w' hw'; go_simp; (try with_reducible rfl)
    simp only [Act.put, List.setIfInBounds_toArray, List.set_cons_zero, List.set_cons_succ]
    apply wpR_next 12 (some 39)
    · simp only [List.getElem?_toArray, List.getElem?_cons_succ, List.getElem?_cons_zero]; exact rfl
    · rfl
    · kernel_rfl
    · kernel_rfl
    · kernel_rfl
    · first | exact fun _ _ _ _ h => Exit.noConfusion h.1 | exact fun _ _ _ _ h => h
    apply Exists.intro
    apply And.intro
    · apply yr_run; rfl; intro w' hw'; go_simp; (try with_reducible rfl)
    simp only [Act.put, List.setIfInBounds_toArray, List.set_cons_zero, List.set_cons_succ]
    apply wpR_next 13 (some 40)
    · simp only [List.getElem?_toArray, List.getElem?_cons_succ, List.getElem?_cons_zero]; exact rfl
    · rfl
    · kernel_rfl
    · kernel_rfl
    · kernel_rfl
    · first | exact fun _ _ _ _ h => Exit.noConfusion h.1 | exact fun _ _ _ _ h => h
    apply Exists.intro
    apply And.intro
    · apply yr_run; rfl; intro w' hw'; go_simp; (try with_reducible rfl)
    simp only [Act.put, List.setIfInBounds_toArray, List.set_cons_zero, List.set_cons_succ]
    apply wpR_next 14 (some 41)
    · simp only [List.getElem?_toArray, List.getElem?_cons_succ, List.getElem?_cons_zero]; exact rfl
    · rfl
    · kernel_rfl
    · kernel_rfl
    · kernel_rfl
    · first | exact fun _ _ _ _ h => Exit.noConfusion h.1 | exact fun _ _ _ _ h => h
    apply Exists.intro
    apply And.intro
    · exact yr_run (by rfl) (fun w' h => exec_slice_as 32 5 (.tmp 39) (.const (.int .i64 15)) (.tmp 40) rfl Try.underlying32 (s := 1) (by kernel_rfl) rfl rfl rfl hE1 hEc HaB.out HBl.out HcB.out)
    simp only [Act.put, List.setIfInBounds_toArray, List.set_cons_zero, List.set_cons_succ]
    refine wpR_two 15 17 (by kernel_rfl) ?_ ?_
    · apply at_call 15 (some 42)
      · simp only [List.getElem?_toArray, List.getElem?_cons_succ, List.getElem?_cons_zero]; exact rfl
      · rfl
      · rfl
      · intro w'; go_simp; first | done | exact ⟨rfl, rfl⟩ | with_reducible rfl
      intro w' hw'
      have E_1_2 := Lib.hid (Ext.trans EX9.out (hw'))
      refine (clone_anyf _ Bd.length cB Bd _ (HBX2.out.bl E_1_2.out) (by omega)).mono ?_
      rintro e w'' ⟨Ac, cc, rfl, hrc, hnc, hb⟩
      have HNC : RowKit.Hid (∀ a, Ac = some a → 0 < Bd.length → W2.heap.size ≤ a.block) := Lib.hid (fun a ha hn => Nat.le_trans E_1_2.out.size (hnc a ha hn))
      have E_1_3 := Lib.hid (Ext.trans E_1_2.out (hb))
      have UB_1_1 := Lib.hid hrc
      clear hrc hnc
      have hkk : Kept (From_ B0) W2.drew w'' := (Kept.of_ext hw').trans (Kept.of_below hb)
      refine ⟨_, rfl, Kept.of_below hb, ?_⟩
      obtain ⟨z1_1, gz1_1⟩ : ∃ x, w'' = x := ⟨_, rfl⟩
      rw [gz1_1] at UB_1_1 E_1_3 hkk ⊢
      have ldt1_4 := fun w'' (h : Kept (From_ B0) z1_1 w'') => lC0 w'' (hkk.trans h)
      have ldt1_5 := fun w'' (h : Kept (From_ B0) z1_1 w'') => lC1 w'' (hkk.trans h)
      have ldt1_6 := fun w'' (h : Kept (From_ B0) z1_1 w'') => lC2 w'' (hkk.trans h)
      clear lC0 lC1 lC2
      clear hkk hb gz1_1 hw'
      try simp only [Act.put, List.setIfInBounds_toArray, List.set_cons_zero, List.set_cons_succ]
      apply wpR_next 16 (some 43)
      · simp only [List.getElem?_toArray, List.getElem?_cons_succ, List.getElem?_cons_zero]; exact rfl
      · rfl
      · kernel_rfl
      · kernel_rfl
      · kernel_rfl
      · first | exact fun _ _ _ _ h => Exit.noConfusion h.1 | exact fun _ _ _ _ h => h
      apply Exists.intro
      apply And.intro
      · apply yr_run; rfl; intro w' hw'; go_simp; (try with_reducible rfl)
      simp only [Act.put, List.setIfInBounds_toArray, List.set_cons_zero, List.set_cons_succ]
      refine wpR_one 17 (by kernel_rfl) ?_
      apply at_run 17 (some 5)
      · simp only [List.getElem?_toArray, List.getElem?_cons_succ, List.getElem?_cons_zero]; exact rfl
      · rfl
      · rfl
      intro w' hw'
      have UB_1_8 := Lib.hid (RdS.bl UB_1_1.out (hw'))
      have E_1_8 := Lib.hid (Ext.trans E_1_3.out (hw'))
      refine ⟨.pointer (some ⟨w'.heap.size, 0, none⟩), w'.alloc (.cells #[.int .i64 0, .int .i64 0, .int .i64 0, .int .i64 0, .int .i64 0, .int .i64 0, .slice none 0 0] 34), ?_, Kept.of_below (below1 _ _), ?_⟩
      · go_simp
      have NV_V_B_1_7 : RowKit.Hid (∀ a, Ac = some a → 0 < Bd.length → some a.block ≠ some w'.heap.size) := Lib.hid (fun a ha hn e => by have h1 := Option.some.inj e; have h2 := UB_1_8.out.low a ha hn; omega)
      have LOv1_7 : RowKit.Hid (W2.heap.size ≤ w'.heap.size) := Lib.hid E_1_8.out.size
      have UB_1_9 := Lib.hid (RdS.bl UB_1_8.out (below1 w' (.cells #[.int .i64 0, .int .i64 0, .int .i64 0, .int .i64 0, .int .i64 0, .int .i64 0, .slice none 0 0] 34)))
      have E_1_9 := Lib.hid (Ext.trans E_1_8.out (below1 w' (.cells #[.int .i64 0, .int .i64 0, .int .i64 0, .int .i64 0, .int .i64 0, .int .i64 0, .slice none 0 0] 34)))
      have XV_n1_7 : RowKit.Hid (Whole (w'.alloc (.cells #[.int .i64 0, .int .i64 0, .int .i64 0, .int .i64 0, .int .i64 0, .int .i64 0, .slice none 0 0] 34)) w'.heap.size 34 [.int .i64 0, .int .i64 0, .int .i64 0, .int .i64 0, .int .i64 0, .int .i64 0, .slice none 0 0]) := Lib.hid (Whole.new_ _ _ [.int .i64 0, .int .i64 0, .int .i64 0, .int .i64 0, .int .i64 0, .int .i64 0, .slice none 0 0])
      have hkk : Kept (From_ B0) z1_1 (w'.alloc (.cells #[.int .i64 0, .int .i64 0, .int .i64 0, .int .i64 0, .int .i64 0, .int .i64 0, .slice none 0 0] 34)) := (Kept.of_ext hw').trans (Kept.of_below (below1 _ _))
      obtain ⟨v1_10, gv1_10⟩ : ∃ x, w'.alloc (.cells #[.int .i64 0, .int .i64 0, .int .i64 0, .int .i64 0, .int .i64 0, .int .i64 0, .slice none 0 0] 34) = x := ⟨_, rfl⟩
      rw [gv1_10] at XV_n1_7 UB_1_9 E_1_9 hkk ⊢
      have ldt1_11 := fun w'' (h : Kept (From_ B0) v1_10 w'') => ldt1_4 w'' (hkk.trans h)
      have ldt1_12 := fun w'' (h : Kept (From_ B0) v1_10 w'') => ldt1_5 w'' (hkk.trans h)
      have ldt1_13 := fun w'' (h : Kept (From_ B0) v1_10 w'') => ldt1_6 w'' (hkk.trans h)
      clear ldt1_4 ldt1_5 ldt1_6
      clear gv1_10 hkk
      obtain ⟨g1_7, gg1_7⟩ : ∃ x, w'.heap.size = x := ⟨_, rfl⟩
      rw [gg1_7] at XV_n1_7 LOv1_7 NV_V_B_1_7 ⊢
      clear gg1_7 hw'
      try simp only [Act.put, List.setIfInBounds_toArray, List.set_cons_zero, List.set_cons_succ]
      refine wpR_one 18 (by kernel_rfl) ?_
      apply at_store 18
      · simp only [List.getElem?_toArray, List.getElem?_cons_succ, List.getElem?_cons_zero]; exact rfl
      · rfl
      · rfl
      intro w' hw'
      have XV_1_15 := Lib.hid (Whole.below XV_n1_7.out (hw'))
      have UB_1_15 := Lib.hid (RdS.bl UB_1_9.out (hw'))
      have E_1_15 := Lib.hid (Ext.trans E_1_9.out (hw'))
      refine ⟨w'.setRow g1_7 #[.int .i64 (a0 : Int), .int .i64 (a1 : Int), .int .i64 (a2 : Int), .int .i64 0, .int .i64 0, .int .i64 0, .slice Ac Bd.length cc], store_row_run 34 (.tmp 5) (.tmp 43) rfl g1_7 rfl [.int .i64 (a0 : Int), .int .i64 (a1 : Int), .int .i64 (a2 : Int), .int .i64 0, .int .i64 0, .int .i64 0, .slice Ac Bd.length cc] rfl 34 [.int .i64 0, .int .i64 0, .int .i64 0, .int .i64 0, .int .i64 0, .int .i64 0, .slice none 0 0] XV_1_15.out (by kernel_rfl) rfl (by simp [Value.oneCell']), kept_row (show B0 ≤ g1_7 by have h1 := LOv1_7.out; have h2 := HB0.out; omega) _, ?_⟩
      have UB_r1_14 := Lib.hid (RdS.row_far UB_1_15.out NV_V_B_1_7.out #[.int .i64 (a0 : Int), .int .i64 (a1 : Int), .int .i64 (a2 : Int), .int .i64 0, .int .i64 0, .int .i64 0, .slice Ac Bd.length cc])
      have E_r1_14 := Lib.hid (below_row E_1_15.out LOv1_7.out #[.int .i64 (a0 : Int), .int .i64 (a1 : Int), .int .i64 (a2 : Int), .int .i64 0, .int .i64 0, .int .i64 0, .slice Ac Bd.length cc])
      have XV_r1_14 : RowKit.Hid (Whole (w'.setRow g1_7 #[.int .i64 (a0 : Int), .int .i64 (a1 : Int), .int .i64 (a2 : Int), .int .i64 0, .int .i64 0, .int .i64 0, .slice Ac Bd.length cc]) g1_7 34 [.int .i64 (a0 : Int), .int .i64 (a1 : Int), .int .i64 (a2 : Int), .int .i64 0, .int .i64 0, .int .i64 0, .slice Ac Bd.length cc]) := Lib.hid (Whole.row XV_1_15.out [.int .i64 (a0 : Int), .int .i64 (a1 : Int), .int .i64 (a2 : Int), .int .i64 0, .int .i64 0, .int .i64 0, .slice Ac Bd.length cc])
      have hkk : Kept (From_ B0) v1_10 (w'.setRow g1_7 #[.int .i64 (a0 : Int), .int .i64 (a1 : Int), .int .i64 (a2 : Int), .int .i64 0, .int .i64 0, .int .i64 0, .slice Ac Bd.length cc]) := (Kept.of_ext hw').trans (kept_row (show B0 ≤ g1_7 by have h1 := LOv1_7.out; have h2 := HB0.out; omega) _)
      obtain ⟨v1_16, gv1_16⟩ : ∃ x, w'.setRow g1_7 #[.int .i64 (a0 : Int), .int .i64 (a1 : Int), .int .i64 (a2 : Int), .int .i64 0, .int .i64 0, .int .i64 0, .slice Ac Bd.length cc] = x := ⟨_, rfl⟩
      rw [gv1_16] at XV_r1_14 UB_r1_14 E_r1_14 hkk ⊢
      have ldt1_17 := fun w'' (h : Kept (From_ B0) v1_16 w'') => ldt1_11 w'' (hkk.trans h)
      have ldt1_18 := fun w'' (h : Kept (From_ B0) v1_16 w'') => ldt1_12 w'' (hkk.trans h)
      have ldt1_19 := fun w'' (h : Kept (From_ B0) v1_16 w'') => ldt1_13 w'' (hkk.trans h)
      clear ldt1_11 ldt1_12 ldt1_13
      clear gv1_16 hkk
      clear hw'
      try simp only [Act.put, List.setIfInBounds_toArray, List.set_cons_zero, List.set_cons_succ]
      refine wpR_done (by kernel_rfl) ?_ _
      intro wE hwE
      have hxx := Whole.below XV_r1_14.out hwE
      have hyy := RdS.bl UB_r1_14.out hwE
      refine ⟨rfl, Ac, cc, g1_7, _, _, _, _, _, _, _, _, _, _, _, _, _, _, _, _, _, rfl, Lib.hid ⟨?_, ?_, hxx, hyy, HNC.out, NV_V_B_1_7.out⟩⟩
      · exact Ext.trans E_r1_14.out hwE
      · exact LOv1_7.out
    · apply at_run 17 (some 5)
      · simp only [List.getElem?_toArray, List.getElem?_cons_succ, List.getElem?_cons_zero]; exact rfl
      · rfl
      · rfl
      intro w' hw'
      have E_2_21 := Lib.hid (Ext.trans EX9.out (hw'))
      refine ⟨.pointer (some ⟨w'.heap.size, 0, none⟩), w'.alloc (.cells #[.int .i64 0, .int .i64 0, .int .i64 0, .int .i64 0, .int .i64 0, .int .i64 0, .slice none 0 0] 34), ?_, Kept.of_below (below1 _ _), ?_⟩
      · go_simp
      have LOv2_20 : RowKit.Hid (W2.heap.size ≤ w'.heap.size) := Lib.hid E_2_21.out.size
      have E_2_22 := Lib.hid (Ext.trans E_2_21.out (below1 w' (.cells #[.int .i64 0, .int .i64 0, .int .i64 0, .int .i64 0, .int .i64 0, .int .i64 0, .slice none 0 0] 34)))
      have XV_n2_20 : RowKit.Hid (Whole (w'.alloc (.cells #[.int .i64 0, .int .i64 0, .int .i64 0, .int .i64 0, .int .i64 0, .int .i64 0, .slice none 0 0] 34)) w'.heap.size 34 [.int .i64 0, .int .i64 0, .int .i64 0, .int .i64 0, .int .i64 0, .int .i64 0, .slice none 0 0]) := Lib.hid (Whole.new_ _ _ [.int .i64 0, .int .i64 0, .int .i64 0, .int .i64 0, .int .i64 0, .int .i64 0, .slice none 0 0])
      have hkk : Kept (From_ B0) W2.drew (w'.alloc (.cells #[.int .i64 0, .int .i64 0, .int .i64 0, .int .i64 0, .int .i64 0, .int .i64 0, .slice none 0 0] 34)) := (Kept.of_ext hw').trans (Kept.of_below (below1 _ _))
      obtain ⟨v2_23, gv2_23⟩ : ∃ x, w'.alloc (.cells #[.int .i64 0, .int .i64 0, .int .i64 0, .int .i64 0, .int .i64 0, .int .i64 0, .slice none 0 0] 34) = x := ⟨_, rfl⟩
      rw [gv2_23] at XV_n2_20 E_2_22 hkk ⊢
      have ldt2_24 := fun w'' (h : Kept (From_ B0) v2_23 w'') => lC0 w'' (hkk.trans h)
      have ldt2_25 := fun w'' (h : Kept (From_ B0) v2_23 w'') => lC1 w'' (hkk.trans h)
      have ldt2_26 := fun w'' (h : Kept (From_ B0) v2_23 w'') => lC2 w'' (hkk.trans h)
      clear lC0 lC1 lC2
      clear gv2_23 hkk
      obtain ⟨g2_20, gg2_20⟩ : ∃ x, w'.heap.size = x := ⟨_, rfl⟩
      rw [gg2_20] at XV_n2_20 LOv2_20  ⊢
      clear gg2_20 hw'
      try simp only [Act.put, List.setIfInBounds_toArray, List.set_cons_zero, List.set_cons_succ]
      refine wpR_one 15 (by kernel_rfl) ?_
      apply at_call 15 (some 42)
      · simp only [List.getElem?_toArray, List.getElem?_cons_succ, List.getElem?_cons_zero]; exact rfl
      · rfl
      · rfl
      · intro w'; go_simp; first | done | exact ⟨rfl, rfl⟩ | with_reducible rfl
      intro w' hw'
      have XV_2_28 := Lib.hid (Whole.below XV_n2_20.out (hw'))
      have E_2_28 := Lib.hid (Ext.trans E_2_22.out (hw'))
      refine (clone_anyf _ Bd.length cB Bd _ (HBX2.out.bl E_2_28.out) (by omega)).mono ?_
      rintro e w'' ⟨Ac, cc, rfl, hrc, hnc, hb⟩
      have HNC : RowKit.Hid (∀ a, Ac = some a → 0 < Bd.length → W2.heap.size ≤ a.block) := Lib.hid (fun a ha hn => Nat.le_trans E_2_28.out.size (hnc a ha hn))
      have NV_V_B_2_27 : RowKit.Hid (∀ a, Ac = some a → 0 < Bd.length → some a.block ≠ some g2_20) := Lib.hid (fun a ha hn e => by have h1 := Option.some.inj e; have h2 := hnc a ha hn; have h3 := XV_2_28.out.lt; omega)
      have XV_2_29 := Lib.hid (Whole.below XV_2_28.out (hb))
      have E_2_29 := Lib.hid (Ext.trans E_2_28.out (hb))
      have UB_2_27 := Lib.hid hrc
      clear hrc hnc
      have hkk : Kept (From_ B0) v2_23 w'' := (Kept.of_ext hw').trans (Kept.of_below hb)
      refine ⟨_, rfl, Kept.of_below hb, ?_⟩
      obtain ⟨z2_27, gz2_27⟩ : ∃ x, w'' = x := ⟨_, rfl⟩
      rw [gz2_27] at XV_2_29 UB_2_27 E_2_29 hkk ⊢
      have ldt2_30 := fun w'' (h : Kept (From_ B0) z2_27 w'') => ldt2_24 w'' (hkk.trans h)
      have ldt2_31 := fun w'' (h : Kept (From_ B0) z2_27 w'') => ldt2_25 w'' (hkk.trans h)
      have ldt2_32 := fun w'' (h : Kept (From_ B0) z2_27 w'') => ldt2_26 w'' (hkk.trans h)
      clear ldt2_24 ldt2_25 ldt2_26
      clear hkk hb gz2_27 hw'
      try simp only [Act.put, List.setIfInBounds_toArray, List.set_cons_zero, List.set_cons_succ]
      apply wpR_next 16 (some 43)
      · simp only [List.getElem?_toArray, List.getElem?_cons_succ, List.getElem?_cons_zero]; exact rfl
      · rfl
      · kernel_rfl
      · kernel_rfl
      · kernel_rfl
      · first | exact fun _ _ _ _ h => Exit.noConfusion h.1 | exact fun _ _ _ _ h => h
      apply Exists.intro
      apply And.intro
      · apply yr_run; rfl; intro w' hw'; go_simp; (try with_reducible rfl)
      simp only [Act.put, List.setIfInBounds_toArray, List.set_cons_zero, List.set_cons_succ]
      refine wpR_one 18 (by kernel_rfl) ?_
      apply at_store 18
      · simp only [List.getElem?_toArray, List.getElem?_cons_succ, List.getElem?_cons_zero]; exact rfl
      · rfl
      · rfl
      intro w' hw'
      have XV_2_34 := Lib.hid (Whole.below XV_2_29.out (hw'))
      have UB_2_34 := Lib.hid (RdS.bl UB_2_27.out (hw'))
      have E_2_34 := Lib.hid (Ext.trans E_2_29.out (hw'))
      refine ⟨w'.setRow g2_20 #[.int .i64 (a0 : Int), .int .i64 (a1 : Int), .int .i64 (a2 : Int), .int .i64 0, .int .i64 0, .int .i64 0, .slice Ac Bd.length cc], store_row_run 34 (.tmp 5) (.tmp 43) rfl g2_20 rfl [.int .i64 (a0 : Int), .int .i64 (a1 : Int), .int .i64 (a2 : Int), .int .i64 0, .int .i64 0, .int .i64 0, .slice Ac Bd.length cc] rfl 34 [.int .i64 0, .int .i64 0, .int .i64 0, .int .i64 0, .int .i64 0, .int .i64 0, .slice none 0 0] XV_2_34.out (by kernel_rfl) rfl (by simp [Value.oneCell']), kept_row (show B0 ≤ g2_20 by have h1 := LOv2_20.out; have h2 := HB0.out; omega) _, ?_⟩
      have UB_r2_33 := Lib.hid (RdS.row_far UB_2_34.out NV_V_B_2_27.out #[.int .i64 (a0 : Int), .int .i64 (a1 : Int), .int .i64 (a2 : Int), .int .i64 0, .int .i64 0, .int .i64 0, .slice Ac Bd.length cc])
      have E_r2_33 := Lib.hid (below_row E_2_34.out LOv2_20.out #[.int .i64 (a0 : Int), .int .i64 (a1 : Int), .int .i64 (a2 : Int), .int .i64 0, .int .i64 0, .int .i64 0, .slice Ac Bd.length cc])
      have XV_r2_33 : RowKit.Hid (Whole (w'.setRow g2_20 #[.int .i64 (a0 : Int), .int .i64 (a1 : Int), .int .i64 (a2 : Int), .int .i64 0, .int .i64 0, .int .i64 0, .slice Ac Bd.length cc]) g2_20 34 [.int .i64 (a0 : Int), .int .i64 (a1 : Int), .int .i64 (a2 : Int), .int .i64 0, .int .i64 0, .int .i64 0, .slice Ac Bd.length cc]) := Lib.hid (Whole.row XV_2_34.out [.int .i64 (a0 : Int), .int .i64 (a1 : Int), .int .i64 (a2 : Int), .int .i64 0, .int .i64 0, .int .i64 0, .slice Ac Bd.length cc])
      have hkk : Kept (From_ B0) z2_27 (w'.setRow g2_20 #[.int .i64 (a0 : Int), .int .i64 (a1 : Int), .int .i64 (a2 : Int), .int .i64 0, .int .i64 0, .int .i64 0, .slice Ac Bd.length cc]) := (Kept.of_ext hw').trans (kept_row (show B0 ≤ g2_20 by have h1 := LOv2_20.out; have h2 := HB0.out; omega) _)
      obtain ⟨v2_35, gv2_35⟩ : ∃ x, w'.setRow g2_20 #[.int .i64 (a0 : Int), .int .i64 (a1 : Int), .int .i64 (a2 : Int), .int .i64 0, .int .i64 0, .int .i64 0, .slice Ac Bd.length cc] = x := ⟨_, rfl⟩
      rw [gv2_35] at XV_r2_33 UB_r2_33 E_r2_33 hkk ⊢
      have ldt2_36 := fun w'' (h : Kept (From_ B0) v2_35 w'') => ldt2_30 w'' (hkk.trans h)
      have ldt2_37 := fun w'' (h : Kept (From_ B0) v2_35 w'') => ldt2_31 w'' (hkk.trans h)
      have ldt2_38 := fun w'' (h : Kept (From_ B0) v2_35 w'') => ldt2_32 w'' (hkk.trans h)
      clear ldt2_30 ldt2_31 ldt2_32
      clear gv2_35 hkk
      clear hw'
      try simp only [Act.put, List.setIfInBounds_toArray, List.set_cons_zero, List.set_cons_succ]
      refine wpR_done (by kernel_rfl) ?_ _
      intro wE hwE
      have hxx := Whole.below XV_r2_33.out hwE
      have hyy := RdS.bl UB_r2_33.out hwE
      refine ⟨rfl, Ac, cc, g2_20, _, _, _, _, _, _, _, _, _, _, _, _, _, _, _, _, _, rfl, Lib.hid ⟨?_, ?_, hxx, hyy, HNC.out, NV_V_B_2_27.out⟩⟩
      · exact Ext.trans E_r2_33.out hwE
      · exact LOv2_20.out
  intro a' w' h9
  obtain ⟨Ac, cc, g5, u27, u28, u29, u30, u31, u32, u33, u34, u35, u36, u37, u38, u39, u40, u41, u42, u43, rfl, hφ⟩ := h9
  simp only [Act.put, List.setIfInBounds_toArray, List.set_cons_zero, List.set_cons_succ]
  obtain ⟨W4, gW4⟩ : ∃ x, w' = x := ⟨_, rfl⟩
  rw [gW4] at hφ ⊢
  clear gW4
  have HF4 := Lib.hid hφ.out.2.2.1
  have HC4 := Lib.hid hφ.out.2.2.2.1
  have HNC := Lib.hid hφ.out.2.2.2.2.1
  have HNV := Lib.hid hφ.out.2.2.2.2.2
  have HG5 : RowKit.Hid (g0 ≠ g5 ∧ w.heap.size ≤ g5) := Lib.hid (by have h1 := hφ.out.2.1; have h2 := HG1.out; have h3 := HG0.out; omega)
  have HO4 := Lib.hid (HO2.out.below hφ.out.1)
  have HB4 : RowKit.Hid (Below w.heap.size w W4) := Lib.hid (bel_bl HB2.out hφ.out.1)
  have HNw2 : RowKit.Hid (∀ a, Ac = some a → 0 < Bd.length → g0 < a.block) := Lib.hid (fun a ha hn => Nat.lt_of_lt_of_le HG1.out (HNC.out a ha hn))
  have HNew : RowKit.Hid (∀ a, Ac = some a → 0 < Bd.length → w.heap.size ≤ a.block) := Lib.hid (fun a ha hn => Nat.le_trans HB2.out.size (HNC.out a ha hn))
  clear hφ HO2 HBX2 HR2 HNC lC0 lC1 lC2 HB2
  go_upto_region 5 with fail
  have HZ3 : RowKit.Hid (∀ w', Kept (fun i => i = g5) W4.drew w' → Calls Try.prog 54 #[.slice (some ⟨bb, off + 3, none⟩) (n - 3) (c - 3)] w' fun e w'' => e = .returned (.int .i64 (num4 a3 a4 a5 a6)) ∧ Below w'.heap.size w' w'') := Lib.hid (fun w' hk => HN3.out w' (RdS.kept_ (HY3.out.below HB4.out.drew) hk HB4.out.size (fun i hi e => by have h1 := HG5.out.2; omega)))
  have HZ7 : RowKit.Hid (∀ w', Kept (fun i => i = g5) W4.drew w' → Calls Try.prog 54 #[.slice (some ⟨bb, off + 7, none⟩) (n - 7) (c - 7)] w' fun e w'' => e = .returned (.int .i64 (num4 a7 a8 a9 b0)) ∧ Below w'.heap.size w' w'') := Lib.hid (fun w' hk => HN7.out w' (RdS.kept_ (HY7.out.below HB4.out.drew) hk HB4.out.size (fun i hi e => by have h1 := HG5.out.2; omega)))
  have HZ11 : RowKit.Hid (∀ w', Kept (fun i => i = g5) W4.drew w' → Calls Try.prog 54 #[.slice (some ⟨bb, off + 11, none⟩) (n - 11) (c - 11)] w' fun e w'' => e = .returned (.int .i64 (num4 b1 b2 b3 b4)) ∧ Below w'.heap.size w' w'') := Lib.hid (fun w' hk => HN11.out w' (RdS.kept_ (HY11.out.below HB4.out.drew) hk HB4.out.size (fun i hi e => by have h1 := HG5.out.2; omega)))
  have HKa : RowKit.Hid (Kept (fun i => i = g5) W4 W4.drew) := Lib.hid ((Kept.refl _ _).drew)
  have HFa := Lib.hid HF4.out.drew
  refine wp_region_reg (fun i => i = g5) (by kernel_rfl) ?_
  apply wpR_next 0 (some 44)
  · simp only [List.getElem?_toArray, List.getElem?_cons_succ, List.getElem?_cons_zero]; exact rfl
  · rfl
  · kernel_rfl
  · kernel_rfl
  · kernel_rfl
  · exact fun _ _ _ _ h => h
  apply Exists.intro
  apply And.intro
  · apply yr_run; rfl; intro w' hw'; go_simp; (try with_reducible rfl)
  try simp only [Act.put, List.setIfInBounds_toArray, List.set_cons_zero, List.set_cons_succ]
  apply wpR_next 1 (some 45)
  · simp only [List.getElem?_toArray, List.getElem?_cons_succ, List.getElem?_cons_zero]; exact rfl
  · rfl
  · kernel_rfl
  · kernel_rfl
  · kernel_rfl
  · exact fun _ _ _ _ h => h
  apply Exists.intro
  apply And.intro
  · exact yr_run (by rfl) (fun w' h => exec_slice_low_as 32 5 (.tmp 44) (.const (.int .i64 3)) rfl Try.underlying32 (s := 1) (by kernel_rfl) rfl rfl hN3 HA3.out rfl rfl)
  try simp only [Act.put, List.setIfInBounds_toArray, List.set_cons_zero, List.set_cons_succ]
  apply wpR_next 2 (some 46)
  · simp only [List.getElem?_toArray, List.getElem?_cons_succ, List.getElem?_cons_zero]; exact rfl
  · rfl
  · kernel_rfl
  · kernel_rfl
  · kernel_rfl
  · exact fun _ _ _ _ h => h
  apply Exists.intro
  apply And.intro
  · apply yr_call; rfl; rotate_left; intro w' hw'; exact HZ3.out w' hw'; intro w'; go_simp
  try simp only [Act.put, List.setIfInBounds_toArray, List.set_cons_zero, List.set_cons_succ]
  apply wpR_next 3 (some 47)
  · simp only [List.getElem?_toArray, List.getElem?_cons_succ, List.getElem?_cons_zero]; exact rfl
  · rfl
  · kernel_rfl
  · kernel_rfl
  · kernel_rfl
  · exact fun _ _ _ _ h => h
  apply Exists.intro
  apply And.intro
  · apply yr_run; rfl; intro w' hw'; go_simp; (try with_reducible rfl)
  try simp only [Act.put, List.setIfInBounds_toArray, List.set_cons_zero, List.set_cons_succ]
  apply wpR_next 4 (some 48)
  · simp only [List.getElem?_toArray, List.getElem?_cons_succ, List.getElem?_cons_zero]; exact rfl
  · rfl
  · kernel_rfl
  · kernel_rfl
  · kernel_rfl
  · exact fun _ _ _ _ h => h
  apply Exists.intro
  apply And.intro
  · exact yr_run (by rfl) (fun w' h => exec_slice_low_as 32 5 (.tmp 47) (.const (.int .i64 7)) rfl Try.underlying32 (s := 1) (by kernel_rfl) rfl rfl hN7 HA7.out rfl rfl)
  try simp only [Act.put, List.setIfInBounds_toArray, List.set_cons_zero, List.set_cons_succ]
  apply wpR_next 5 (some 49)
  · simp only [List.getElem?_toArray, List.getElem?_cons_succ, List.getElem?_cons_zero]; exact rfl
  · rfl
  · kernel_rfl
  · kernel_rfl
  · kernel_rfl
  · exact fun _ _ _ _ h => h
  apply Exists.intro
  apply And.intro
  · apply yr_call; rfl; rotate_left; intro w' hw'; exact HZ7.out w' hw'; intro w'; go_simp
  try simp only [Act.put, List.setIfInBounds_toArray, List.set_cons_zero, List.set_cons_succ]
  apply wpR_next 6 (some 50)
  · simp only [List.getElem?_toArray, List.getElem?_cons_succ, List.getElem?_cons_zero]; exact rfl
  · rfl
  · kernel_rfl
  · kernel_rfl
  · kernel_rfl
  · exact fun _ _ _ _ h => h
  apply Exists.intro
  apply And.intro
  · apply yr_run; rfl; intro w' hw'; go_simp; (try with_reducible rfl)
  try simp only [Act.put, List.setIfInBounds_toArray, List.set_cons_zero, List.set_cons_succ]
  apply wpR_next 7 (some 51)
  · simp only [List.getElem?_toArray, List.getElem?_cons_succ, List.getElem?_cons_zero]; exact rfl
  · rfl
  · kernel_rfl
  · kernel_rfl
  · kernel_rfl
  · exact fun _ _ _ _ h => h
  apply Exists.intro
  apply And.intro
  · exact yr_run (by rfl) (fun w' h => exec_slice_low_as 32 5 (.tmp 50) (.const (.int .i64 11)) rfl Try.underlying32 (s := 1) (by kernel_rfl) rfl rfl hN11 HA11.out rfl rfl)
  try simp only [Act.put, List.setIfInBounds_toArray, List.set_cons_zero, List.set_cons_succ]
  apply wpR_next 8 (some 52)
  · simp only [List.getElem?_toArray, List.getElem?_cons_succ, List.getElem?_cons_zero]; exact rfl
  · rfl
  · kernel_rfl
  · kernel_rfl
  · kernel_rfl
  · exact fun _ _ _ _ h => h
  apply Exists.intro
  apply And.intro
  · apply yr_call; rfl; rotate_left; intro w' hw'; exact HZ11.out w' hw'; intro w'; go_simp
  try simp only [Act.put, List.setIfInBounds_toArray, List.set_cons_zero, List.set_cons_succ]
  apply wpR_next 9 (some 53)
  · simp only [List.getElem?_toArray, List.getElem?_cons_succ, List.getElem?_cons_zero]; exact rfl
  · rfl
  · kernel_rfl
  · kernel_rfl
  · kernel_rfl
  · exact fun _ _ _ _ h => h
  apply Exists.intro
  apply And.intro
  · apply yr_run; rfl; intro w' hw'; go_simp; (try with_reducible rfl)
  try simp only [Act.put, List.setIfInBounds_toArray, List.set_cons_zero, List.set_cons_succ]
  apply wpR_store 10
  · simp only [List.getElem?_toArray, List.getElem?_cons_succ, List.getElem?_cons_zero]; exact rfl
  · rfl
  · kernel_rfl
  · rfl
  intro w' hw'
  have HFq := Lib.hid (HFa.out.below hw')
  have hcc := HFq.out.cell (i := 3) rfl
  have hff := HFq.out.free 3
  refine ⟨w'.setCell ⟨g5, 3, none⟩ (.int .i64 (num4 a3 a4 a5 a6)), ?_, (Kept.refl (fun i => i = g5) w').setCell (p := ⟨g5, 3, none⟩) (.inl rfl) _, ?_⟩
  · go_simp; first | done | exact rfl
  have HF10 : RowKit.Hid (Whole (w'.setCell ⟨g5, 3, none⟩ (.int .i64 (num4 a3 a4 a5 a6))) g5 34 [.int .i64 (a0 : Int), .int .i64 (a1 : Int), .int .i64 (a2 : Int), .int .i64 (num4 a3 a4 a5 a6), .int .i64 0, .int .i64 0, .slice Ac Bd.length cc]) := Lib.hid (HFq.out.set_ 3 _)
  have HK10 : RowKit.Hid (Kept (fun i => i = g5) W4 (w'.setCell ⟨g5, 3, none⟩ (.int .i64 (num4 a3 a4 a5 a6)))) := Lib.hid ((HKa.out.trans (Kept.of_ext hw')).setCell (.inl rfl) _)
  obtain ⟨V10, gV10⟩ : ∃ x, w'.setCell ⟨g5, 3, none⟩ (.int .i64 (num4 a3 a4 a5 a6)) = x := ⟨_, rfl⟩
  rw [gV10] at HF10 HK10 ⊢
  clear gV10 hw' hcc hff HFq HFa HKa
  try simp only [Act.put, List.setIfInBounds_toArray, List.set_cons_zero, List.set_cons_succ]
  apply wpR_next 11 (some 54)
  · simp only [List.getElem?_toArray, List.getElem?_cons_succ, List.getElem?_cons_zero]; exact rfl
  · rfl
  · kernel_rfl
  · kernel_rfl
  · kernel_rfl
  · exact fun _ _ _ _ h => h
  apply Exists.intro
  apply And.intro
  · apply yr_run; rfl; intro w' hw'; go_simp; (try with_reducible rfl)
  try simp only [Act.put, List.setIfInBounds_toArray, List.set_cons_zero, List.set_cons_succ]
  apply wpR_store 12
  · simp only [List.getElem?_toArray, List.getElem?_cons_succ, List.getElem?_cons_zero]; exact rfl
  · rfl
  · kernel_rfl
  · rfl
  intro w' hw'
  have HFq := Lib.hid (HF10.out.below hw')
  have hcc := HFq.out.cell (i := 4) rfl
  have hff := HFq.out.free 4
  refine ⟨w'.setCell ⟨g5, 4, none⟩ (.int .i64 (num4 a7 a8 a9 b0)), ?_, (Kept.refl (fun i => i = g5) w').setCell (p := ⟨g5, 4, none⟩) (.inl rfl) _, ?_⟩
  · go_simp; first | done | exact rfl
  have HF12 : RowKit.Hid (Whole (w'.setCell ⟨g5, 4, none⟩ (.int .i64 (num4 a7 a8 a9 b0))) g5 34 [.int .i64 (a0 : Int), .int .i64 (a1 : Int), .int .i64 (a2 : Int), .int .i64 (num4 a3 a4 a5 a6), .int .i64 (num4 a7 a8 a9 b0), .int .i64 0, .slice Ac Bd.length cc]) := Lib.hid (HFq.out.set_ 4 _)
  have HK12 : RowKit.Hid (Kept (fun i => i = g5) W4 (w'.setCell ⟨g5, 4, none⟩ (.int .i64 (num4 a7 a8 a9 b0)))) := Lib.hid ((HK10.out.trans (Kept.of_ext hw')).setCell (.inl rfl) _)
  obtain ⟨V12, gV12⟩ : ∃ x, w'.setCell ⟨g5, 4, none⟩ (.int .i64 (num4 a7 a8 a9 b0)) = x := ⟨_, rfl⟩
  rw [gV12] at HF12 HK12 ⊢
  clear gV12 hw' hcc hff HFq HF10 HK10
  try simp only [Act.put, List.setIfInBounds_toArray, List.set_cons_zero, List.set_cons_succ]
  apply wpR_next 13 (some 55)
  · simp only [List.getElem?_toArray, List.getElem?_cons_succ, List.getElem?_cons_zero]; exact rfl
  · rfl
  · kernel_rfl
  · kernel_rfl
  · kernel_rfl
  · exact fun _ _ _ _ h => h
  apply Exists.intro
  apply And.intro
  · apply yr_run; rfl; intro w' hw'; go_simp; (try with_reducible rfl)
  try simp only [Act.put, List.setIfInBounds_toArray, List.set_cons_zero, List.set_cons_succ]
  apply wpR_store 14
  · simp only [List.getElem?_toArray, List.getElem?_cons_succ, List.getElem?_cons_zero]; exact rfl
  · rfl
  · kernel_rfl
  · rfl
  intro w' hw'
  have HFq := Lib.hid (HF12.out.below hw')
  have hcc := HFq.out.cell (i := 5) rfl
  have hff := HFq.out.free 5
  refine ⟨w'.setCell ⟨g5, 5, none⟩ (.int .i64 (num4 b1 b2 b3 b4)), ?_, (Kept.refl (fun i => i = g5) w').setCell (p := ⟨g5, 5, none⟩) (.inl rfl) _, ?_⟩
  · go_simp; first | done | exact rfl
  have HF14 : RowKit.Hid (Whole (w'.setCell ⟨g5, 5, none⟩ (.int .i64 (num4 b1 b2 b3 b4))) g5 34 [.int .i64 (a0 : Int), .int .i64 (a1 : Int), .int .i64 (a2 : Int), .int .i64 (num4 a3 a4 a5 a6), .int .i64 (num4 a7 a8 a9 b0), .int .i64 (num4 b1 b2 b3 b4), .slice Ac Bd.length cc]) := Lib.hid (HFq.out.set_ 5 _)
  have HK14 : RowKit.Hid (Kept (fun i => i = g5) W4 (w'.setCell ⟨g5, 5, none⟩ (.int .i64 (num4 b1 b2 b3 b4)))) := Lib.hid ((HK12.out.trans (Kept.of_ext hw')).setCell (.inl rfl) _)
  obtain ⟨V14, gV14⟩ : ∃ x, w'.setCell ⟨g5, 5, none⟩ (.int .i64 (num4 b1 b2 b3 b4)) = x := ⟨_, rfl⟩
  rw [gV14] at HF14 HK14 ⊢
  clear gV14 hw' hcc hff HFq HF12 HK12
  try simp only [Act.put, List.setIfInBounds_toArray, List.set_cons_zero, List.set_cons_succ]
  refine wpR_done (by kernel_rfl) ?_ _
  intro W5 hw5
  have HF5 := Lib.hid (HF14.out.below hw5)
  have HK5 : RowKit.Hid (Kept (fun i => i = g5) W4 W5) := Lib.hid (HK14.out.trans (Kept.of_ext hw5))
  clear hw5 HF14 HK14 HZ3 HZ7 HZ11
  have HO5 := Lib.hid (HK5.out.whole HO4.out HG5.out.1)
  have HB5 : RowKit.Hid (Below w.heap.size w W5) := Lib.hid (HB4.out.trans (HK5.out.below HB4.out.size (fun i hi e => by have h1 := HG5.out.2; omega)))
  have HC5 := Lib.hid (HC4.out.kept_ne HK5.out (fun a ha hn e => HNV.out a ha hn (by rw [e])))
  clear HK5 HF4 HO4 HB4 HC4
  have HM := Lib.hid (fun w' => fmay_any (⟨(a0 : Int), (a1 : Int), (a2 : Int), num4 a3 a4 a5 a6, num4 a7 a8 a9 b0, num4 b1 b2 b3 b4⟩ : FrT) Ac Bd.length cc w')
  rw [HMz.out] at HM HOk
  unfold frCells at HM
  go_upto_region 6 with fail
  refine wp_region_lit ?_
  refine wpList_load_row rfl 34 (.tmp 5) rfl g5 rfl 34 #[.int .i64 (a0 : Int), .int .i64 (a1 : Int), .int .i64 (a2 : Int), .int .i64 (num4 a3 a4 a5 a6), .int .i64 (num4 a7 a8 a9 b0), .int .i64 (num4 b1 b2 b3 b4), .slice Ac Bd.length cc] (0, 0) _ HF5.out Try.underlying34 rfl (by kernel_rfl) ?_
  simp only [Act.put, List.setIfInBounds_toArray, List.set_cons_zero, List.set_cons_succ]
  by_cases hz : z = 0
  · subst hz
    go_wp2_with fail
    refine (HM.out _).mono ?_
    rintro e W6 ⟨rfl, hb6⟩
    have HF6 := Lib.hid (HF5.out.below hb6)
    have HO6 := Lib.hid (HO5.out.below hb6)
    have HB6 : RowKit.Hid (Below w.heap.size w W6) := Lib.hid (bel_bl HB5.out hb6)
    have HC6 := Lib.hid (HC5.out.bl hb6)
    clear hb6 HF5 HO5 HB5 HC5 HM
    go_upto_region 8 with fail
    refine wp_region_lit ?_
    refine wpList_load_row rfl 34 (.tmp 5) rfl g5 rfl 34 #[.int .i64 (a0 : Int), .int .i64 (a1 : Int), .int .i64 (a2 : Int), .int .i64 (num4 a3 a4 a5 a6), .int .i64 (num4 a7 a8 a9 b0), .int .i64 (num4 b1 b2 b3 b4), .slice Ac Bd.length cc] (0, 0) _ HF6.out Try.underlying34 rfl (by kernel_rfl) ?_
    simp only [Act.put, List.setIfInBounds_toArray, List.set_cons_zero, List.set_cons_succ]
    refine wpList_store_row rfl 34 (.tmp 2) (.tmp 60) rfl g0 #[.int .i64 (a0 : Int), .int .i64 (a1 : Int), .int .i64 (a2 : Int), .int .i64 (num4 a3 a4 a5 a6), .int .i64 (num4 a7 a8 a9 b0), .int .i64 (num4 b1 b2 b3 b4), .slice Ac Bd.length cc] rfl rfl 34 #[.int .i64 0, .int .i64 0, .int .i64 0, .int .i64 0, .int .i64 0, .int .i64 0, .slice none 0 0] HO6.out (by kernel_rfl) rfl (by simp [Value.oneCell']) ?_
    have HO9 : RowKit.Hid (Whole (W6.setRow g0 #[.int .i64 (a0 : Int), .int .i64 (a1 : Int), .int .i64 (a2 : Int), .int .i64 (num4 a3 a4 a5 a6), .int .i64 (num4 a7 a8 a9 b0), .int .i64 (num4 b1 b2 b3 b4), .slice Ac Bd.length cc]) g0 34 [.int .i64 (a0 : Int), .int .i64 (a1 : Int), .int .i64 (a2 : Int), .int .i64 (num4 a3 a4 a5 a6), .int .i64 (num4 a7 a8 a9 b0), .int .i64 (num4 b1 b2 b3 b4), .slice Ac Bd.length cc]) := Lib.hid (setRow_heap W6 g0 _ _ _ _ HO6.out)
    have HB9 : RowKit.Hid (Below w.heap.size w (W6.setRow g0 #[.int .i64 (a0 : Int), .int .i64 (a1 : Int), .int .i64 (a2 : Int), .int .i64 (num4 a3 a4 a5 a6), .int .i64 (num4 a7 a8 a9 b0), .int .i64 (num4 b1 b2 b3 b4), .slice Ac Bd.length cc])) := Lib.hid (below_row HB6.out HG0.out.1 _)
    have HC9 := Lib.hid (HC6.out.row_far (g := g0) (fun a ha hn e => by have h1 := HNw2.out a ha hn; have h2 := Option.some.inj e; omega) #[.int .i64 (a0 : Int), .int .i64 (a1 : Int), .int .i64 (a2 : Int), .int .i64 (num4 a3 a4 a5 a6), .int .i64 (num4 a7 a8 a9 b0), .int .i64 (num4 b1 b2 b3 b4), .slice Ac Bd.length cc])
    obtain ⟨W9, gW9⟩ : ∃ x, W6.setRow g0 #[.int .i64 (a0 : Int), .int .i64 (a1 : Int), .int .i64 (a2 : Int), .int .i64 (num4 a3 a4 a5 a6), .int .i64 (num4 a7 a8 a9 b0), .int .i64 (num4 b1 b2 b3 b4), .slice Ac Bd.length cc] = x := ⟨_, rfl⟩
    rw [gW9] at HO9 HB9 HC9 ⊢
    clear gW9 HO6 HB6 HC6 HF6
    have x0 := HO9.out.cell (i := 0) rfl
    have x1 := HO9.out.cell (i := 1) rfl
    have x2 := HO9.out.cell (i := 2) rfl
    have x3 := HO9.out.cell (i := 3) rfl
    have x4 := HO9.out.cell (i := 4) rfl
    have x5 := HO9.out.cell (i := 5) rfl
    have x6 := HO9.out.cell (i := 6) rfl
    go_wp2
    refine bodyPost_ret (v := .tuple #[.agg #[.int .i64 (a0 : Int), .int .i64 (a1 : Int), .int .i64 (a2 : Int), .int .i64 (num4 a3 a4 a5 a6), .int .i64 (num4 a7 a8 a9 b0), .int .i64 (num4 b1 b2 b3 b4), .slice Ac Bd.length cc], .int .i64 0]) (by simp [results, Try.results39, go_sem, x0, x1, x2, x3, x4, x5, x6]) rfl ?_
    refine gives_yes (A := Ac) (c := cc) (by rw [HOk.out]; rfl) ?_ ?_ ?_ HB9.out
    · rw [HBd.out, HFr.out]; rfl
    · rw [HBd.out]; exact HC9.out
    · rw [HBd.out]; exact HNew.out
  · have q : (z == 0) = false := beq_eq_false_iff_ne.2 hz
    have q' : (z != 0) = true := bne_iff_ne.2 hz
    have HOk2 : RowKit.Hid (okF L = false) := Lib.hid (by rw [HOk.out]; exact decide_eq_false hz)
    clear hz
    go_wp2_with fail
    refine (HM.out _).mono ?_
    rintro e W6 ⟨rfl, hb6⟩
    have HO6 := Lib.hid (HO5.out.below hb6)
    have HB6 : RowKit.Hid (Below w.heap.size w W6) := Lib.hid (bel_bl HB5.out hb6)
    clear hb6 HF5 HO5 HB5 HC5 HM
    go_upto_region 7 with fail
    refine wp_region_lit ?_
    refine wl_read (v := ?_) (some 59) rfl (by rfl) ?_ ?_
    rotate_left
    · go_simp; (try with_reducible rfl)
    simp only [Act.put, List.setIfInBounds_toArray, List.set_cons_zero, List.set_cons_succ]
    refine wpList_store_row rfl 34 (.tmp 2) (.tmp 59) rfl g0 #[.int .i64 0, .int .i64 0, .int .i64 0, .int .i64 0, .int .i64 0, .int .i64 0, .slice none 0 0] rfl rfl 34 #[.int .i64 0, .int .i64 0, .int .i64 0, .int .i64 0, .int .i64 0, .int .i64 0, .slice none 0 0] HO6.out (by kernel_rfl) rfl (by simp [Value.oneCell']) ?_
    have HO9 : RowKit.Hid (Whole (W6.setRow g0 #[.int .i64 0, .int .i64 0, .int .i64 0, .int .i64 0, .int .i64 0, .int .i64 0, .slice none 0 0]) g0 34 [.int .i64 0, .int .i64 0, .int .i64 0, .int .i64 0, .int .i64 0, .int .i64 0, .slice none 0 0]) := Lib.hid (setRow_heap W6 g0 _ _ _ _ HO6.out)
    have HB9 : RowKit.Hid (Below w.heap.size w (W6.setRow g0 #[.int .i64 0, .int .i64 0, .int .i64 0, .int .i64 0, .int .i64 0, .int .i64 0, .slice none 0 0])) := Lib.hid (below_row HB6.out HG0.out.1 _)
    obtain ⟨W9, gW9⟩ : ∃ x, W6.setRow g0 #[.int .i64 0, .int .i64 0, .int .i64 0, .int .i64 0, .int .i64 0, .int .i64 0, .slice none 0 0] = x := ⟨_, rfl⟩
    rw [gW9] at HO9 HB9 ⊢
    clear gW9 HO6 HB6
    have x0 := HO9.out.cell (i := 0) rfl
    have x1 := HO9.out.cell (i := 1) rfl
    have x2 := HO9.out.cell (i := 2) rfl
    have x3 := HO9.out.cell (i := 3) rfl
    have x4 := HO9.out.cell (i := 4) rfl
    have x5 := HO9.out.cell (i := 5) rfl
    have x6 := HO9.out.cell (i := 6) rfl
    go_wp2
    refine bodyPost_ret (v := .tuple #[.agg #[.int .i64 0, .int .i64 0, .int .i64 0, .int .i64 0, .int .i64 0, .int .i64 0, .slice none 0 0], .int .i64 2]) (by simp [results, Try.results39, go_sem, x0, x1, x2, x3, x4, x5, x6]) rfl (gives_not HOk2.out rfl HB9.out)
theorem take_any (A : Option Addr) (n c : Nat) (L : List Nat) (w : World) (h : RdS w w.heap.size 1 A n c (rowsV f8 L)) (hb : ∀ b ∈ L, b < 256) (hn : n ≤ maxLen) :
    Calls Try.prog 39 #[.slice A n c] w (GivesT w L) := by
  have hl := h.rlen f8_len (by decide)
  by_cases h1 : n < 19
  · exact (take_a A n c L w h hn h1).mono fun e w' ⟨h2, h3⟩ => gives_not (by unfold okF; rw [decide_eq_false (by omega : ¬ (19 ≤ L.length ∧ L.length ≤ 16403))]; rfl) h2 h3
  by_cases h2 : 16403 < n
  · exact (take_b A n c L w h hn h2).mono fun e w' ⟨h2, h3⟩ => gives_not (by unfold okF; rw [decide_eq_false (by omega : ¬ (19 ≤ L.length ∧ L.length ≤ 16403))]; rfl) h2 h3
  cases hS : sealB L
  · exact (take_c A n c L w h hb (by omega) (by omega) hS).mono fun e w' ⟨h2, h3⟩ => gives_not (by unfold okF; rw [hS]; simp) h2 h3
  · exact take_d A n c L w h hb (by omega) (by omega) hS rfl
end Go.Proofs.Ytibbibpfnpjjdaa

/- The net: At, take. -/
namespace Go.Proofs.Ytibbibpfnpjjdaa
open Go.RowKit
set_option linter.unusedSimpArgs false
set_option linter.unusedVariables false

theorem ret_whole2 {P : Program} {fn : Func} {R : Ending → World → Prop} {a : Act} {w : World} {p u : Tmp} {t : TypeId} (h : fn.results = #[.cell p t, .tmp u]) (g : Nat) {t' : TypeId} {cs : List Value} {d : TypeDesc} {v : Value}
    (hp : a.tmps.getD p undef = .pointer (some ⟨g, 0, none⟩)) (hv : a.tmps.getD u undef = v) (hW : Whole w g t' cs) (hu : P.underlying t = some d) (hd : d.isRow = true) (hi : (P.info? t).map (·.size) = some cs.length)
    (hdf : a.defers = []) (hR : R (.returned (.tuple #[.agg cs.toArray, v])) w) : bodyPost P fn R .ret a w := by
  refine bodyPost_ret (v := .tuple #[.agg cs.toArray, v]) ?_ hdf hR
  have hl := run_loadVar_mid (P := P) w g 0 t cs d (fun j v hv => by
    have := hW.cell hv
    simpa using this) hu hd hi
  rw [results_cell_tmp h, hp, hv]
  simp [asAddr, Result.andThen, hl]
theorem frCells_one (f : FrT) (A : Option Addr) (n c : Nat) : ∀ v ∈ frCells f A n c, v.oneCell' = true := by simp [frCells, Value.oneCell']
/-- What At tells. -/
def atR (s : NtS) (i : Int) : FrT × List Nat × Int := if hasN s i = true then takeR (atN s i) else (zeroF, [], 1)
def GivesAt (w : World) (s : NtS) (i : Int) (e : Ending) (w' : World) : Prop :=
  ∃ A c, e = .returned (.tuple #[.agg (frCells (atR s i).1 A (atR s i).2.1.length c).toArray, .int .i64 (atR s i).2.2]) ∧ RdS w' w'.heap.size 1 A (atR s i).2.1.length c (rowsV f8 (atR s i).2.1) ∧ (∀ a, A = some a → 0 < (atR s i).2.1.length → w.heap.size ≤ a.block) ∧ Below w.heap.size w w'
theorem gives_at_no {w w' : World} {s : NtS} {i : Int} (h : ¬ hasN s i = true) (hb : Below w.heap.size w w') : GivesAt w s i (.returned (.tuple #[.agg #[.int .i64 0, .int .i64 0, .int .i64 0, .int .i64 0, .int .i64 0, .int .i64 0, .slice none 0 0], .int .i64 1])) w' := by
  have ha : atR s i = (zeroF, [], 1) := by unfold atR; rw [if_neg h]
  unfold GivesAt
  rw [ha]
  exact ⟨none, 0, rfl, rds_nil _ _ _, fun a ha => (by cases ha), hb⟩
set_option maxRecDepth 100000 in
set_option maxHeartbeats 1000000 in
theorem nt_at {B : Nat} {g t : Nat} {go : Option Nat} {A : Option Addr} {c : Nat} {es : List Sl} {s : NtS} (w : World) (h : NtIn B w g t go A c es s) (hs : NtOk s) (i : Int) : Calls Try.prog 20 #[.pointer (some ⟨g, 0, none⟩), .int .i64 i] w (GivesAt w s i) := by
  have hbx := h.box.al (.cells #[.int .i64 0, .int .i64 0, .int .i64 0, .int .i64 0, .int .i64 0, .int .i64 0, .slice none 0 0] 34)
  have HH := Lib.hid (nt_has g A s.1.length c t i _ hbx)
  by_cases hi : hasN s i = true
  · have hd : decide (0 ≤ i ∧ i < (s.1.length : Int)) = true := hi
    obtain ⟨m, rfl⟩ : ∃ m : Nat, i = (m : Int) := ⟨i.toNat, by have := (of_decide_eq_true hi).1; omega⟩
    have hm : m < s.1.length := by have := (of_decide_eq_true hi).2; omega
    obtain ⟨L, hL⟩ : ∃ L, s.1[m]? = some L := ⟨_, List.getElem?_eq_getElem hm⟩
    obtain ⟨e, he1, he2⟩ := h.each m L hL
    have haL : atN s (m : Int) = L := by unfold atN; rw [Int.toNat_natCast, List.getD_eq_getElem?_getD, hL]; rfl
    have hbL := hs.bytes L (List.mem_of_getElem? hL)
    obtain ⟨b, o, rfl, hlt, hpl⟩ := h.row.place slc_len (by decide) (by omega)
    have k1 := hpl m e he1 0 (.slice e.1 e.2.1 e.2.2) rfl
    rw [Addr.add_lit] at k1
    simp only [Nat.add_zero, Nat.mul_one] at k1
    have hB := below1 w (.cells #[.int .i64 0, .int .i64 0, .int .i64 0, .int .i64 0, .int .i64 0, .int .i64 0, .slice none 0 0] 34)
    have k2 := (hB.cell (p := ⟨b, o + m, none⟩) hlt).trans k1
    have l0 := hbx.cell (i := 0) (v := .slice (some ⟨b, o, none⟩) s.1.length c) rfl
    have hO : Whole (w.alloc (.cells #[.int .i64 0, .int .i64 0, .int .i64 0, .int .i64 0, .int .i64 0, .int .i64 0, .slice none 0 0] 34)) w.heap.size 34 [.int .i64 0, .int .i64 0, .int .i64 0, .int .i64 0, .int .i64 0, .int .i64 0, .slice none 0 0] := Whole.new_ _ _ _
    have hr := (he2.below hB).rds
    have hT := take_any e.1 L.length e.2.2 L _ hr hbL.2 (by unfold maxLen; omega)
    have heL := he2.len
    rw [← heL] at hT
    have HT := Lib.hid hT
    have HO := Lib.hid hO
    have HB := Lib.hid hB
    have HR : RowKit.Hid (atR s (m : Int) = takeR L) := Lib.hid (by unfold atR; rw [if_pos hi, haL])
    obtain ⟨n, gn⟩ : ∃ n, s.1.length = n := ⟨_, rfl⟩
    rw [gn] at HH l0 hd hm
    have hmI : (m : Int) < (n : Int) := by omega
    clear hbx h hs hi hL he1 he2 haL hbL hlt hpl k1 hr hT hO hB gn heL
    go_enter Try.func20, Try.ntmps20
    go_upto_region 1 with fail
    obtain ⟨W1, gW1⟩ : ∃ x, w.alloc (.cells #[.int .i64 0, .int .i64 0, .int .i64 0, .int .i64 0, .int .i64 0, .int .i64 0, .slice none 0 0] 34) = x := ⟨_, rfl⟩
    obtain ⟨g0, gg0⟩ : ∃ x, w.heap.size = x := ⟨_, rfl⟩
    have HG0 : RowKit.Hid (w.heap.size = g0) := Lib.hid gg0
    rw [gW1] at HO HB HH HT l0 k2 ⊢
    rw [gg0] at HO ⊢
    clear gW1 gg0
    rw [hd] at HH
    go_wp2_with fail
    refine HH.out.mono ?_
    rintro e1 w1 ⟨rfl, rfl⟩
    go_wp2_with fail
    refine HT.out.mono ?_
    rintro e1 w2 ⟨A2, c2, rfl, hr2, hn2, hb2⟩
    have HR2 := Lib.hid hr2
    have HN2 := Lib.hid hn2
    have HB2 := Lib.hid hb2
    have HO2 := Lib.hid (HO.out.below hb2)
    clear hr2 hb2 hn2 k2 l0 HT HH hd
    obtain ⟨f, gf⟩ : ∃ z, (takeR L).1 = z := ⟨_, rfl⟩
    obtain ⟨M, gM⟩ : ∃ z, (takeR L).2.1 = z := ⟨_, rfl⟩
    obtain ⟨er, ge⟩ : ∃ z, (takeR L).2.2 = z := ⟨_, rfl⟩
    rw [gf, gM, ge]
    have Gf := Lib.hid gf
    have GM := Lib.hid gM
    have Ge := Lib.hid ge
    rw [gM] at HR2 HN2
    clear gf gM ge
    rename_i hK
    refine hK _ _ ?_
    refine wl_read (v := .agg (frCells f A2 M.length c2).toArray) (some 19) rfl (by rfl) ?_ ?_
    · go_simp; (try rfl)
    simp only [Act.put, List.setIfInBounds_toArray, List.set_cons_zero, List.set_cons_succ]
    refine wl_read (v := ?_) (some 20) rfl (by rfl) ?_ ?_
    rotate_left
    · go_simp; (try with_reducible rfl)
    simp only [Act.put, List.setIfInBounds_toArray, List.set_cons_zero, List.set_cons_succ]
    refine wpList_store_row rfl 34 (.tmp 4) (.tmp 19) rfl g0 (frCells f A2 M.length c2).toArray rfl rfl 34 #[.int .i64 0, .int .i64 0, .int .i64 0, .int .i64 0, .int .i64 0, .int .i64 0, .slice none 0 0] HO2.out (by kernel_rfl) rfl (by simp [frCells, Value.oneCell']) ?_
    have HO3 : RowKit.Hid (Whole (w2.setRow g0 (frCells f A2 M.length c2).toArray) g0 34 (frCells f A2 M.length c2)) := Lib.hid (Whole.row HO2.out (frCells f A2 M.length c2))
    have HB3 : RowKit.Hid (Below w.heap.size w w2) := Lib.hid (HB.out.trans (HB2.out.mono HB.out.size))
    have HB4 : RowKit.Hid (Below w.heap.size w (w2.setRow g0 (frCells f A2 M.length c2).toArray)) := Lib.hid (below_row HB3.out (Nat.le_of_eq HG0.out) _)
    have HR3 : RowKit.Hid (RdS (w2.setRow g0 (frCells f A2 M.length c2).toArray) (w2.setRow g0 (frCells f A2 M.length c2).toArray).heap.size 1 A2 M.length c2 (rowsV f8 M)) := Lib.hid (HR2.out.row_far (fun a ha hp e => by have h1 := HN2.out a ha hp; have h2 := HO.out.lt; have h3 : a.block = g0 := Option.some.inj e; omega) _)
    clear hK
    go_wp2
    refine ret_whole2 rfl g0 rfl rfl HO3.out Try.underlying34 rfl (by kernel_rfl) rfl ?_
    unfold GivesAt
    rw [HR.out, Gf.out, GM.out, Ge.out]
    exact ⟨A2, c2, rfl, HR3.out, fun a ha hp => by have h1 := HN2.out a ha hp; have := HB.out.size; omega, HB4.out⟩
  · have hd : decide (0 ≤ i ∧ i < (s.1.length : Int)) = false := by unfold hasN at hi; simpa using hi
    have HE := Lib.hid (fun w' (hb : Below w.heap.size w w') => gives_at_no (i := i) hi hb)
    have HB := Lib.hid (below1 w (.cells #[.int .i64 0, .int .i64 0, .int .i64 0, .int .i64 0, .int .i64 0, .int .i64 0, .slice none 0 0] 34))
    clear hbx h hs hi
    go_enter Try.func20, Try.ntmps20
    rw [hd] at HH
    go_wp2_with (first
      | (go_at_call 29
         refine HH.out.mono ?_
         rintro e w1 ⟨rfl, rfl⟩))
    refine bodyPost_ret (v := .tuple #[.agg #[.int .i64 0, .int .i64 0, .int .i64 0, .int .i64 0, .int .i64 0, .int .i64 0, .slice none 0 0], .int .i64 1]) (by simp [results, Try.results20, go_sem]) rfl ?_
    refine HE.out _ ?_
    first | exact HB.out | (trace_state; sorry)
end Go.Proofs.Ytibbibpfnpjjdaa

/- The net: take, Drop. -/
namespace Go.Proofs.Ytibbibpfnpjjdaa
open Go.RowKit
set_option linter.unusedSimpArgs false
set_option linter.unusedVariables false

theorem rowsV_erase (es : List Sl) (i : Nat) : (rowsV slc es).eraseIdx i = rowsV slc (es.eraseIdx i) := by
  induction es generalizing i with
  | nil => rfl
  | cons e es ih => cases i with
    | zero => rfl
    | succ i => show _ :: _ = _ :: _; rw [show (es.eraseIdx i) = es.eraseIdx i from rfl, ← ih]; rfl
theorem erase_len {L : List (List Nat)} {m : Nat} (hm : m < L.length) : (L.eraseIdx m).length = L.length - 1 := by rw [List.length_eraseIdx, if_pos hm]
theorem bump_small {T : List Int} {k : Nat} {M : Int} (h : ∀ x ∈ T, x ≤ M) (h0 : 0 ≤ M) : T.getD k 0 ≤ M := by
  rw [List.getD_eq_getElem?_getD]
  rcases hk : T[k]? with _ | x
  · exact h0
  · exact h x (List.mem_of_getElem? hk)
set_option maxRecDepth 100000 in
set_option maxHeartbeats 1000000 in
theorem nt_take {B : Nat} {g t : Nat} {go : Option Nat} {A : Option Addr} {c : Nat} {es : List Sl} {s : NtS} (w : World) (h : NtIn B w g t go A c es s) (hs : NtOk s) (i : Int) (hi : hasN s i = true) (kd : Nat) (hk : kd < 6) (hT : ∀ x ∈ s.2, x ≤ 1000000) :
    Calls Try.prog 30 #[.pointer (some ⟨g, 0, none⟩), .int .i64 i, .int .i64 (kd : Int)] w fun e w' => e = .returned (.tuple #[]) ∧ ∃ go' es', NtIn B w' g t go' A c es' (goneN s i kd) ∧ NtGo w w' (NtT g t go (wayB A)) (NtT g t go' (wayB A)) := by
  obtain ⟨m, rfl⟩ : ∃ m : Nat, i = (m : Int) := ⟨i.toNat, by have := (of_decide_eq_true hi).1; omega⟩
  have hm : m < s.1.length := by have := (of_decide_eq_true hi).2; omega
  have hmx := hs.max
  have l0 := h.box.cell (i := 0) (v := .slice A s.1.length c) rfl
  have l1 := h.box.cell (i := 1) (v := .pointer (some ⟨t, 0, none⟩)) rfl
  obtain ⟨b, junk, rfl, hlo, hW, hcl, hnc, hcm, hxl⟩ := own_place h.own (by omega)
  rw [Nat.mul_one] at hcl hxl
  have hel := h.eslen
  have hD := del_row b c m _ junk w hW hcl hcm (slc_all es) (by omega)
  rw [hxl, rowsV_erase] at hD
  have hne : g ≠ b := h.box.ne_ hW (by decide)
  -- the row is shorter, the tally as it was
  have hstep : ∀ w1, Whole w1 b 32 (rowsV slc (es.eraseIdx m) ++ ([.slice none 0 0] ++ junk)) → Kept (fun i => i = b) w w1 → NtIn B (w1.setCell ⟨g, 0, none⟩ (.slice (some ⟨b, 0, none⟩) (s.1.length - 1) c)) g t go (some ⟨b, 0, none⟩) c (es.eraseIdx m) (s.1.eraseIdx m, s.2) ∧ NtGo w (w1.setCell ⟨g, 0, none⟩ (.slice (some ⟨b, 0, none⟩) (s.1.length - 1) c)) (NtT g t go (wayB (some ⟨b, 0, none⟩))) (NtT g t go (wayB (some ⟨b, 0, none⟩))) := fun w1 hW1 hk1 => by
    have hkk : Kept (fun i => i = g ∨ some i = wayB (some ⟨b, 0, none⟩)) w (w1.setCell ⟨g, 0, none⟩ (.slice (some ⟨b, 0, none⟩) (s.1.length - 1) c)) := (hk1.wider (fun i _ e => .inr (by rw [e]; rfl))).setCell (.inl (.inl rfl)) _
    have hb1 := hk1.whole h.box hne
    have hl1 := erase_len hm
    have hr1 : (rowsV slc (es.eraseIdx m)).length = s.1.length - 1 := by rw [← rowsV_erase, List.length_eraseIdx, if_pos (by omega), hxl]
    refine h.way hkk ?_ ?_ ?_ (.inl rfl)
    · rw [hl1]
      exact hb1.set_ 0 _
    · rw [hl1]
      refine own_mk (hW1.far (p := ⟨g, 0, none⟩) (fun e => hne e.symm) _) hlo ?_ (by omega) hcm (by rw [hr1, Nat.mul_one])
      rw [Nat.mul_one, List.length_append, List.length_append, hr1]
      rw [List.length_append, hxl] at hcl
      simp only [List.length_singleton]
      omega
    · exact (h.each.erase m).kept hkk (h.nobW)
  have hfr : ∀ w1, Kept (fun i => i = b) w w1 → w1.cell? ⟨g, 0, none⟩ = some (.slice (some ⟨b, 0, none⟩) s.1.length c) ∧ w1.cell? ⟨g, 1, none⟩ = some (.pointer (some ⟨t, 0, none⟩)) ∧ w1.frozen? ⟨g, 0, none⟩ = false := fun w1 hk1 => by
    have hb1 := hk1.whole h.box hne
    exact ⟨hb1.cell (i := 0) rfl, hb1.cell (i := 1) rfl, hb1.free 0⟩
  have hadd := addL_bump (T := s.2) (k := kd) (by rw [hs.six]; exact hk) (by have := bump_small (k := kd) hT (by decide); omega)
  have HD := Lib.hid hD
  have HS := Lib.hid hstep
  have HF := Lib.hid hfr
  have HAD := Lib.hid hadd
  have HG : RowKit.Hid (goneN s (m : Int) kd = (s.1.eraseIdx m, bump s.2 kd)) := Lib.hid (by unfold goneN; rw [Int.toNat_natCast])
  have hw1 : IntKind.i64.wrap ((m : Int) + 1) = (m : Int) + 1 := IntWalk.i64_in _ (by omega)
  clear hD hstep hfr hadd hi hs hT h hW hcl hcm hxl hel hlo hnc
  go_enter Try.func30, Try.ntmps30
  go_wp2_with (first
    | (go_at_call 48
       refine HD.out.mono ?_
       rintro e w1 ⟨rfl, hW1, hk1⟩
       obtain ⟨l2, l3, f2⟩ := HF.out w1 hk1
       obtain ⟨hN, hG⟩ := HS.out w1 hW1 hk1
       have HN := Lib.hid hN
       have HGo := Lib.hid hG
       have HT := Lib.hid hN.tal
       clear hW1 hk1 hN hG l0 l1)
    | (go_at_call 28
       refine (ta_add t go s.2 (kd : Int) 1 _ HT.out).mono ?_
       rintro e w3 ⟨rfl, go', hT3, hS3⟩
       rw [HAD.out.1] at hT3
       obtain ⟨hN3, hG3⟩ := HN.out.tally hT3 hS3
       have HN3 := Lib.hid hN3
       have HG3 := Lib.hid (HGo.out.trans hG3)
       clear hT3 hS3 hN3 hG3))
  go_end0
  refine ⟨rfl, go', es.eraseIdx m, ?_, HG3.out⟩
  rw [HG.out]
  exact HN3.out
def hasE (s : NtS) (i : Int) : Int := if hasN s i = true then 0 else 1
set_option maxRecDepth 100000 in
theorem nt_drop {B : Nat} {g t : Nat} {go : Option Nat} {A : Option Addr} {c : Nat} {es : List Sl} {s : NtS} (w : World) (h : NtIn B w g t go A c es s) (hs : NtOk s) (i : Int) (hT : ∀ x ∈ s.2, x ≤ 1000000) :
    Calls Try.prog 12 #[.pointer (some ⟨g, 0, none⟩), .int .i64 i] w fun e w' => e = .returned (.int .i64 (hasE s i)) ∧ ∃ go' es', NtIn B w' g t go' A c es' (dropN s i) ∧ NtGo w w' (NtT g t go (wayB A)) (NtT g t go' (wayB A)) := by
  have HH := Lib.hid (nt_has g A s.1.length c t i w h.box)
  have H := Lib.hid h
  by_cases hi : hasN s i = true
  · have hd : decide (0 ≤ i ∧ i < (s.1.length : Int)) = true := hi
    have HT := Lib.hid (nt_take w h hs i hi 4 (by decide) hT)
    have HD : RowKit.Hid (dropN s i = goneN s i 4) := Lib.hid (by unfold dropN; rw [if_pos hi])
    have HE : RowKit.Hid (hasE s i = 0) := Lib.hid (by unfold hasE; rw [if_pos hi])
    rw [hd] at HH
    clear h hs hT hi
    go_enter Try.func12, Try.ntmps12
    go_wp2_with (first
      | (go_at_call 29
         refine HH.out.mono ?_
         rintro e w1 ⟨rfl, rfl⟩)
      | (go_at_call 30
         refine HT.out.mono ?_
         rintro e w2 ⟨rfl, go', es', h1, h2⟩
         have H1 := Lib.hid h1
         have H2 := Lib.hid h2
         clear h1 h2))
    go_ret
    refine ⟨by rw [HE.out]; rfl, go', es', ?_, H2.out⟩
    rw [HD.out]
    exact H1.out
  · have hd : decide (0 ≤ i ∧ i < (s.1.length : Int)) = false := by unfold hasN at hi; simpa using hi
    have HD : RowKit.Hid (dropN s i = s) := Lib.hid (by unfold dropN; rw [if_neg hi])
    have HE : RowKit.Hid (hasE s i = 1) := Lib.hid (by unfold hasE; rw [if_neg hi])
    rw [hd] at HH
    clear h hs hT hi
    go_enter Try.func12, Try.ntmps12
    go_wp2_with (first
      | (go_at_call 29
         refine HH.out.mono ?_
         rintro e w1 ⟨rfl, rfl⟩))
    go_ret
    refine ⟨by rw [HE.out]; rfl, go, es, ?_, NtGo.below (Below.refl _ _)⟩
    rw [HD.out]
    exact H.out
end Go.Proofs.Ytibbibpfnpjjdaa

/- The net: what Send wants: rows of frames, a row that grows. -/
namespace Go.Proofs.Ytibbibpfnpjjdaa
open Go.RowKit
set_option linter.unusedSimpArgs false
set_option linter.unusedVariables false

/-- A frame's cells in a row. -/
abbrev Fe := (FrT × List Nat) × (Option Addr × Nat)
def feC (x : Fe) : List Value := frCells x.1.1 x.2.1 x.1.2.length x.2.2
theorem feC_len (x : Fe) : (feC x).length = 7 := rfl
theorem feC_one (x : Fe) : ∀ v ∈ feC x, v.oneCell' = true := frCells_one _ _ _ _
structure FeOk (w : World) (x : Fe) : Prop where
  rds : RdS w w.heap.size 1 x.2.1 x.1.2.length x.2.2 (rowsV f8 x.1.2)
  bytes : ∀ b ∈ x.1.2, b < 256
/-- A row of frames. -/
structure FesIn (w : World) (A : Option Addr) (n c : Nat) (Fs : List Fe) : Prop where
  row : RdS w w.heap.size 7 A n c (rowsV feC Fs)
  each : ∀ x ∈ Fs, FeOk w x
theorem FesIn.below {w w' : World} {A : Option Addr} {n c : Nat} {Fs : List Fe} (h : FesIn w A n c Fs) (hb : Below w.heap.size w w') : FesIn w' A n c Fs :=
  ⟨h.row.bl hb, fun x hx => ⟨(h.each x hx).rds.bl hb, (h.each x hx).bytes⟩⟩
theorem FesIn.len {w : World} {A : Option Addr} {n c : Nat} {Fs : List Fe} (h : FesIn w A n c Fs) : Fs.length = n := h.row.rlen feC_len (by decide)
def keyF (Fs : List Fe) : List (FrT × List Nat) := Fs.map (·.1)
theorem sendN_app (s : NtS) (l : List (FrT × List Nat)) (f : FrT × List Nat) : sendN s (l ++ [f]) = send1 (sendN s l) f := by
  induction l generalizing s with
  | nil => rfl
  | cons x l ih => exact ih _
theorem sentN_app (s : NtS) (l : List (FrT × List Nat)) (f : FrT × List Nat) : sentN s (l ++ [f]) = sentN s l + sends (sendN s l) f := by
  induction l generalizing s with
  | nil => simp [sentN, sendN]
  | cons x l ih => show sends s x + sentN (send1 s x) (l ++ [f]) = sends s x + sentN (send1 s x) l + _; rw [ih, Nat.add_assoc]; rfl
def FesFar (S : Nat → Prop) (A : Option Addr) (n : Nat) (Fs : List Fe) : Prop := (∀ a, A = some a → 0 < n → ¬ S a.block) ∧ ∀ x ∈ Fs, ∀ a, x.2.1 = some a → 0 < x.1.2.length → ¬ S a.block
theorem FesIn.kept {S : Nat → Prop} {w w' : World} {A : Option Addr} {n c : Nat} {Fs : List Fe} (h : FesIn w A n c Fs) (hk : Kept S w w') (hS : FesFar S A n Fs) : FesIn w' A n c Fs :=
  ⟨h.row.kept_ne hk hS.1, fun x hx => ⟨(h.each x hx).rds.kept_ne hk (hS.2 x hx), (h.each x hx).bytes⟩⟩
theorem send1_small {s : NtS} {M : Int} (h : ∀ x ∈ s.2, x ≤ M) (h0 : 0 ≤ M) (f : FrT × List Nat) : ∀ x ∈ (send1 s f).2, x ≤ M + 1 := by
  have hb : ∀ k, ∀ x ∈ bump s.2 k, x ≤ M + 1 := fun k x hx => by
    rcases List.mem_or_eq_of_mem_set hx with hx | rfl
    · have := h x hx; omega
    · have := bump_small (k := k) h h0; omega
  unfold send1
  split
  · split
    · exact hb 0
    · exact hb 1
  · intro x hx; have := h x hx; omega
theorem sendN_small : ∀ (l : List (FrT × List Nat)) (s : NtS) (M : Int), (∀ x ∈ s.2, x ≤ M) → 0 ≤ M → ∀ x ∈ (sendN s l).2, x ≤ M + l.length
  | [], s, M, h, _, x, hx => by have := h x hx; simp; omega
  | f :: l, s, M, h, h0, x, hx => by
    have := sendN_small l (send1 s f) (M + 1) (send1_small h h0 f) (by omega) x hx
    rw [List.length_cons]
    omega
/-- One more on its way. -/
theorem NtIn.push {B : Nat} {w : World} {g t : Nat} {go : Option Nat} {A : Option Addr} {c : Nat} {es : List Sl} {s : NtS} (h : NtIn B w g t go A c es s) (hn : s.1.length ≤ 10000) (ty : TypeId) (e : Sl) (L : List Nat) (he : Byt w e L) (a1 : Addr) (hc : w.cell? a1 = some (.slice e.1 e.2.1 e.2.2)) :
    ∃ A' c' w5, (Builtin.append_ #[27, 27] ty #[.slice A s.1.length c, .slice (some a1) 1 1]).run Try.prog w = .ok (.slice A' (s.1.length + 1) c') w5 ∧ w5.cell? ⟨g, 0, none⟩ = some (.slice A s.1.length c) ∧ w5.cell? ⟨g, 1, none⟩ = some (.pointer (some ⟨t, 0, none⟩)) ∧ w5.frozen? ⟨g, 0, none⟩ = false ∧
      NtIn B (w5.setCell ⟨g, 0, none⟩ (.slice A' (s.1.length + 1) c')) g t go A' c' (es ++ [e]) (s.1 ++ [L], s.2) ∧ NtGo w (w5.setCell ⟨g, 0, none⟩ (.slice A' (s.1.length + 1) c')) (NtT g t go (wayB A)) (NtT g t go (wayB A')) := by
  have hB : B ≤ w.heap.size := by have := h.lo; have := h.box.lt; omega
  obtain ⟨A', c', w5, hrun, hown, hk, hA⟩ := way_app h.own (by omega) hB ty e a1 hc
  have hgA : ∀ {A0 : Option Addr} {n0 c0 : Nat} {w0 : World} {xs : List Value}, w0.ownsRow B 32 1 (.slice A0 n0 c0) n0 xs → Whole w0 g 58 (ntC A s.1.length c t) → some g ≠ wayB A0 := fun ho hw0 e0 => by
    obtain ⟨cs, h1⟩ := own_whole ho e0
    exact hw0.ne_ h1 (by decide) rfl
  have hb5 := hk.whole h.box (hgA h.own h.box)
  have hkk : Kept (fun i => i = g ∨ some i = wayB A) w (w5.setCell ⟨g, 0, none⟩ (.slice A' (s.1.length + 1) c')) := (hk.wider (fun i _ e => .inr e)).setCell (.inl (.inl rfl)) _
  have hl : (s.1 ++ [L]).length = s.1.length + 1 := by simp
  refine ⟨A', c', w5, hrun, hb5.cell (i := 0) rfl, hb5.cell (i := 1) rfl, hb5.free 0, ?_⟩
  refine h.way hkk ?_ ?_ ((h.each.app h.eslen he).kept hkk h.nobW) hA
  · rw [hl]; exact hb5.set_ 0 _
  · rw [hl]
    refine own_cell_far hown ?_ _
    rw [wayB_own]
    exact hgA hown hb5
end Go.Proofs.Ytibbibpfnpjjdaa

/- The net: Send. -/
namespace Go.Proofs.Ytibbibpfnpjjdaa
open Go.RowKit
set_option linter.unusedSimpArgs false
set_option linter.unusedVariables false

theorem keyF_take {Fs : List Fe} {j : Nat} {x : Fe} (h : Fs[j]? = some x) : keyF (Fs.take (j + 1)) = keyF (Fs.take j) ++ [x.1] := by
  rw [take_snoc_ _ _ _ h]
  simp [keyF]
theorem keyF_bytes {w : World} {A : Option Addr} {n c : Nat} {Fs : List Fe} (h : FesIn w A n c Fs) (j : Nat) : ∀ f ∈ keyF (Fs.take j), ∀ b ∈ f.2, b < 256 := fun f hf => by
  obtain ⟨x, hx, rfl⟩ := List.mem_map.1 hf
  exact (h.each x (List.mem_of_mem_take hx)).bytes
theorem send1_not {s : NtS} {f : FrT × List Nat} (h : mayF f.1 f.2.length ≠ 0) : send1 s f = s ∧ sends s f = 0 := ⟨by unfold send1; rw [if_neg h], by unfold sends; rw [if_neg (fun q => h q.1)]⟩
theorem send1_full {s : NtS} {f : FrT × List Nat} (h : mayF f.1 f.2.length = 0) (hm : ¬ s.1.length < 4096) : send1 s f = (s.1, bump s.2 1) ∧ sends s f = 0 := ⟨by unfold send1; rw [if_pos h, if_neg hm], by unfold sends; rw [if_neg (fun q => hm q.2)]⟩
theorem send1_room {s : NtS} {f : FrT × List Nat} (h : mayF f.1 f.2.length = 0) (hm : s.1.length < 4096) : send1 s f = (s.1 ++ [putF f.1 f.2], bump s.2 0) ∧ sends s f = 1 := ⟨by unfold send1; rw [if_pos h, if_pos hm], by unfold sends; rw [if_pos ⟨h, hm⟩]⟩
theorem sentN_le (l : List (FrT × List Nat)) : ∀ s, sentN s l ≤ l.length := by
  induction l with
  | nil => intro s; exact Nat.zero_le _
  | cons f l ih =>
    intro s
    show sends s f + sentN (send1 s f) l ≤ l.length + 1
    have := ih (send1 s f)
    have : sends s f ≤ 1 := by unfold sends; split <;> omega
    omega
/-- What holds ahead of each round. -/
def SendIn (B g t : Nat) (w : World) (go : Option Nat) (A : Option Addr) (s : NtS) (wr : World) : Prop :=
  ∃ go' A' c' es', NtIn B wr g t go' A' c' es' s ∧ NtGo w wr (NtT g t go (wayB A)) (NtT g t go' (wayB A'))
theorem SendIn.below {B g t : Nat} {w : World} {go : Option Nat} {A : Option Addr} {s : NtS} {wr w' : World} (h : SendIn B g t w go A s wr) (hb : Below wr.heap.size wr w') : SendIn B g t w go A s w' := by
  obtain ⟨go', A', c', es', h1, h2⟩ := h
  exact ⟨go', A', c', es', h1.below hb, h2.trans (NtGo.below hb)⟩
set_option maxRecDepth 100000 in
set_option maxHeartbeats 4000000 in
theorem nt_send {B : Nat} {g t : Nat} {go : Option Nat} {A : Option Addr} {c : Nat} {es : List Sl} {s : NtS} (w : World) (h : NtIn B w g t go A c es s) (hs : NtOk s) (Af : Option Addr) (nf cf : Nat) (Fs : List Fe) (hf : FesIn w Af nf cf Fs) (hn : nf ≤ 1000) (hS : FesFar (NtT g t go (wayB A)) Af nf Fs) (hT : ∀ x ∈ s.2, x ≤ 100000) :
    Calls Try.prog 11 #[.pointer (some ⟨g, 0, none⟩), .slice Af nf cf] w fun e w' => e = .returned (.int .i64 (sentN s (keyF Fs) : Int)) ∧ SendIn B g t w go A (sendN s (keyF Fs)) w' := by
  have HF := Lib.hid hf
  have HS := Lib.hid hS
  have Hl := Lib.hid hf.len
  have Hs := Lib.hid hs
  have HT := Lib.hid hT
  have H0 : RowKit.Hid (SendIn B g t w go A (sendN s (keyF (Fs.take 0))) w) := Lib.hid ⟨go, A, c, es, h, NtGo.below (Below.refl _ _)⟩
  clear h hf hS hs hT
  go_enter Try.func11, Try.ntmps11
  go_upto_region 3 with fail
  go_loopw [5, 12] (fun v5 v12 wr => ∃ j : Nat, j ≤ nf ∧ v12 = .int .i64 (j : Int) ∧ v5 = .int .i64 (sentN s (keyF (Fs.take j)) : Int) ∧ RowKit.Hid (SendIn B g t w go A (sendN s (keyF (Fs.take j))) wr)) (fun _ v12 _ => nf - (intOf v12).toNat)
  case atStart => exact ⟨0, Nat.zero_le _, rfl, rfl, H0⟩
  case round =>
    clear H0
    obtain ⟨j, hj, rfl, rfl, hin⟩ := hrel
    by_cases hjn : j < nf
    · have hi1 : (j : Int) < (nf : Int) := by omega
      obtain ⟨x, hx⟩ : ∃ x, Fs[j]? = some x := ⟨_, List.getElem?_eq_getElem (by have := Hl.out; omega)⟩
      have hxm : x ∈ Fs := List.mem_of_getElem? hx
      have hNx : keyF (Fs.take (j + 1)) = keyF (Fs.take j) ++ [x.1] := keyF_take hx
      have hok := NtOk.sends _ s Hs.out (keyF_bytes HF.out j)
      have hsm := sendN_small (keyF (Fs.take j)) s 100000 HT.out (by decide)
      have hkl : (keyF (Fs.take j)).length ≤ 1000 := by unfold keyF; rw [List.length_map, List.length_take]; omega
      have hNl := sentN_le (keyF (Fs.take j)) s
      have HA : RowKit.Hid (sendN s (keyF (Fs.take (j + 1))) = send1 (sendN s (keyF (Fs.take j))) x.1 ∧ sentN s (keyF (Fs.take (j + 1))) = sentN s (keyF (Fs.take j)) + sends (sendN s (keyF (Fs.take j))) x.1) := Lib.hid (by rw [hNx, sendN_app, sentN_app]; exact ⟨rfl, rfl⟩)
      obtain ⟨S1, gS1⟩ : ∃ z, sendN s (keyF (Fs.take j)) = z := ⟨_, rfl⟩
      obtain ⟨N1, gN1⟩ : ∃ z, sentN s (keyF (Fs.take j)) = z := ⟨_, rfl⟩
      rw [gS1] at hin hok hsm HA
      rw [gN1] at hNl HA ⊢
      have hN1 : N1 ≤ 1000 := by omega
      have hsm1 : ∀ k, S1.2.getD k 0 < 1099511627776 := fun k => by
        have := bump_small (k := k) (M := 101000) (fun x hx => by have := hsm x hx; omega) (by decide)
        omega
      obtain ⟨go1, A1, c1, es1, h1, h2⟩ := hin.out
      have hfr := HF.out.kept h2.k HS.out
      have hS6 := hok.six
      have hmx := hok.max
      obtain ⟨b, off, rfl, hbB, hpl⟩ := hfr.row.place feC_len (by decide) (by omega)
      have HP := Lib.hid (hpl j x hx)
      have HX := Lib.hid (hfr.each x hxm)
      have HN := Lib.hid h1
      have HGo := Lib.hid h2
      clear hNx hok hsm hkl hNl gS1 gN1 hin h1 h2 hfr hbB hpl hxm
      go_upto_region 4 with fail
      refine wp_region_lit ?_
      refine wl_read (v := ?_) (some 14) rfl (by rfl) ?_ ?_
      rotate_left
      · go_simp; (try with_reducible rfl)
      simp only [Act.put, List.setIfInBounds_toArray, List.set_cons_zero, List.set_cons_succ]
      refine wl_load_at (some 15) rfl (by rfl) 34 (.tmp 14) rfl ⟨b, off + j * 7, none⟩ rfl (feC x) _ HP.out Try.underlying34 rfl (by kernel_rfl) ?_
      simp only [Act.put, List.setIfInBounds_toArray, List.set_cons_zero, List.set_cons_succ]
      refine wl_new 7 rfl rfl rfl 34 (.tmp 15) rfl rfl #[.int .i64 0, .int .i64 0, .int .i64 0, .int .i64 0, .int .i64 0, .int .i64 0, .slice none 0 0] ?_ (feC x).toArray (by simp) rfl (by kernel_rfl) rfl (by simp [feC, frCells, Value.oneCell']) ?_
      · go_simp; (try with_reducible rfl)
      simp only [Act.put, List.setIfInBounds_toArray, List.set_cons_zero, List.set_cons_succ]
      have HY2 : RowKit.Hid (Whole (wr.alloc (.cells (feC x).toArray 34)) wr.heap.size 34 (feC x)) := Lib.hid (Whole.new_ _ _ _)
      have HN2 := Lib.hid (HN.out.below (below1 wr (.cells (feC x).toArray 34)))
      have HX2 : RowKit.Hid (RdS (wr.alloc (.cells (feC x).toArray 34)) (wr.alloc (.cells (feC x).toArray 34)).heap.size 1 x.2.1 x.1.2.length x.2.2 (rowsV f8 x.1.2)) := Lib.hid (HX.out.rds.al _)
      have HGo2 := Lib.hid (HGo.out.trans (NtGo.below (below1 wr (.cells (feC x).toArray 34))))
      obtain ⟨W2, gW2⟩ : ∃ z, wr.alloc (.cells (feC x).toArray 34) = z := ⟨_, rfl⟩
      obtain ⟨g7, gg7⟩ : ∃ z, wr.heap.size = z := ⟨_, rfl⟩
      rw [gW2] at HY2 HN2 HX2 HGo2 ⊢
      rw [gg7] at HY2 ⊢
      clear gW2 gg7 HN HGo HP
      go_upto_region 5 with fail
      refine wp_region_lit ?_
      refine wl_load (some 17) rfl (by rfl) 34 (.tmp 7) rfl g7 rfl 34 (feC x) _ HY2.out Try.underlying34 rfl (by kernel_rfl) ?_
      simp only [Act.put, List.setIfInBounds_toArray, List.set_cons_zero, List.set_cons_succ]
      by_cases hm : mayF x.1.1 x.1.2.length = 0
      · have HPy : RowKit.Hid (Calls Try.prog 27 #[.agg (feC x).toArray] W2 (GivesO W2 x.1.1 x.1.2)) := Lib.hid (put_own x.1.1 x.2.1 x.1.2.length x.2.2 x.1.2 W2 hm HX2.out HX.out.bytes)
        clear HX2 HY2 HX
        go_wp2_with fail
        refine HPy.out.mono ?_
        rintro e w3 ⟨A3, c3, rfl, ho3, hb3⟩
        have hN3 := HN2.out.below hb3
        have HB3 := Lib.hid (Byt.of_own ho3 rfl)
        have HN3 := Lib.hid hN3
        have HGo3 := Lib.hid (HGo2.out.trans (NtGo.below hb3))
        have l0 := hN3.box.cell (i := 0) (v := .slice A1 S1.1.length c1) rfl
        have l1 := hN3.box.cell (i := 1) (v := .pointer (some ⟨t, 0, none⟩)) rfl
        clear hb3 ho3 hN3 HN2 HGo2 HPy
        obtain ⟨n3, gn3⟩ : ∃ z, (putF x.1.1 x.1.2).length = z := ⟨_, rfl⟩
        rw [gn3] at HB3 ⊢
        obtain ⟨n1, gn1⟩ : ∃ z, S1.1.length = z := ⟨_, rfl⟩
        have Gn1 := Lib.hid gn1
        rw [gn1] at l0
        by_cases hr : n1 < 4096
        · have HR := Lib.hid (send1_room (s := S1) (f := x.1) hm (by omega))
          have hq : decide ((4096 : Int) ≤ (n1 : Int)) = false := decide_eq_false (by omega)
          have hadd := addL_bump (T := S1.2) (k := 0) (by omega) (hsm1 0)
          have HAD : RowKit.Hid (addL S1.2 0 1 = bump S1.2 0 ∧ addE S1.2 0 1 = 0) := Lib.hid hadd
          have Hr := Lib.hid hr
          clear hm hr hsm1 hS6 hmx gn1 gn3 hadd
          go_upto_region 9 with fail
          clear hq
          refine wp_region_lit ?_
          refine wl_read (v := ?_) (some 34) rfl (by rfl) ?_ ?_
          rotate_left
          · go_simp; (try with_reducible rfl)
          simp only [Act.put, List.setIfInBounds_toArray, List.set_cons_zero, List.set_cons_succ]
          refine wl_read (v := ?_) (some 35) rfl (by rfl) ?_ ?_
          rotate_left
          · go_simp; (try with_reducible rfl)
          simp only [Act.put, List.setIfInBounds_toArray, List.set_cons_zero, List.set_cons_succ]
          refine wl_read (v := ?_) (some 36) rfl (by rfl) ?_ ?_
          rotate_left
          · go_simp; (try with_reducible rfl)
          simp only [Act.put, List.setIfInBounds_toArray, List.set_cons_zero, List.set_cons_succ]
          refine wl_read (v := ?_) (some 37) rfl (by rfl) ?_ ?_
          rotate_left
          · go_simp; (try with_reducible rfl)
          simp only [Act.put, List.setIfInBounds_toArray, List.set_cons_zero, List.set_cons_succ]
          refine wl_read (v := ?_) (some 38) rfl (by rfl) ?_ ?_
          rotate_left
          · go_simp; (try with_reducible rfl)
          simp only [Act.put, List.setIfInBounds_toArray, List.set_cons_zero, List.set_cons_succ]
          refine wl_read (v := ?_) (some 39) rfl (by rfl) ?_ ?_
          rotate_left
          · go_simp; (try with_reducible rfl)
          simp only [Act.put, List.setIfInBounds_toArray, List.set_cons_zero, List.set_cons_succ]
          refine wl_buildSlice (some 40) rfl (by rfl) 27 32 1 #[(0, .tmp 39)] rfl Try.underlying27 #[.slice A3 n3 c3] (by kernel_rfl) ?_
          simp only [Act.put, List.setIfInBounds_toArray, List.set_cons_zero, List.set_cons_succ]
          have hN4 := HN3.out.below (below1 w3 (.cells #[.slice A3 n3 c3] 32))
          have hB4 := HB3.out.below (below1 w3 (.cells #[.slice A3 n3 c3] 32))
          have hc4 : (w3.alloc (.cells #[.slice A3 n3 c3] 32)).cell? ⟨w3.heap.size, 0, none⟩ = some (.slice A3 n3 c3) := (Whole.new_ w3 32 [.slice A3 n3 c3]).cell (i := 0) rfl
          have hGo4 := HGo3.out.trans (NtGo.below (below1 w3 (.cells #[.slice A3 n3 c3] 32)))
          obtain ⟨W4, gW4⟩ : ∃ z, w3.alloc (.cells #[.slice A3 n3 c3] 32) = z := ⟨_, rfl⟩
          obtain ⟨g8, gg8⟩ : ∃ z, w3.heap.size = z := ⟨_, rfl⟩
          rw [gW4] at hN4 hB4 hc4 hGo4 ⊢
          rw [gg8] at hc4 ⊢
          have hn4 : S1.1.length ≤ 10000 := by have := Gn1.out; have := Hr.out; omega
          obtain ⟨A5, c5, w5, hrun, l2, l3, f2, hN5, hG5⟩ := hN4.push hn4 27 (A3, n3, c3) (putF x.1.1 x.1.2) hB4 ⟨g8, 0, none⟩ hc4
          rw [Gn1.out] at hrun l2 hN5 hG5
          have Hrun := Lib.hid hrun
          have HN5 := Lib.hid hN5
          have HGo5 := Lib.hid (hGo4.trans hG5)
          have HT5 := Lib.hid hN5.tal
          have hw1 : IntKind.i64.wrap ((N1 : Int) + 1) = (N1 : Int) + 1 := IntWalk.i64_in _ (by omega)
          clear hrun hN5 hG5 hN4 hB4 hc4 hGo4 gW4 gg8 hn4 HN3 HB3 HGo3 l0 l1 Hr
          go_wp2_with (first
            | (at_builtin
               refine wpList_app rfl (.tmp 38) (.tmp 40) _ rfl rfl rfl Hrun.out ?_)
            | (go_at_call 28
               refine (ta_add t go1 S1.2 0 1 _ HT5.out).mono ?_
               rintro e w6 ⟨rfl, go6, hT6, hS6⟩
               rw [HAD.out.1] at hT6
               obtain ⟨hN6, hG6⟩ := HN5.out.tally hT6 hS6
               have HN6 := Lib.hid hN6
               have HG6 := Lib.hid (HGo5.out.trans hG6)
               clear hT6 hS6 hN6 hG6))
          go_roundw
          case rel =>
            refine ⟨j + 1, by omega, by go_num, ?_, Lib.hid ?_⟩
            · rw [HA.out.2, HR.out.2]; go_num
            · rw [HA.out.1, HR.out.1]; exact ⟨_, _, _, _, HN6.out, HG6.out⟩
          case measure => simp [intOf]; omega
        · have HR := Lib.hid (send1_full (s := S1) (f := x.1) hm (by omega))
          have hq : decide ((4096 : Int) ≤ (n1 : Int)) = true := decide_eq_true (by omega)
          have hadd := addL_bump (T := S1.2) (k := 1) (by omega) (hsm1 1)
          have HAD : RowKit.Hid (addL S1.2 1 1 = bump S1.2 1 ∧ addE S1.2 1 1 = 0) := Lib.hid hadd
          have HT3 := Lib.hid HN3.out.tal
          clear hm hr hsm1 hS6 hmx gn1 gn3 hadd
          go_wp2_with (first
            | (go_at_call 28
               refine (ta_add t go1 S1.2 1 1 _ HT3.out).mono ?_
               rintro e w6 ⟨rfl, go6, hT6, hS6⟩
               rw [HAD.out.1] at hT6
               obtain ⟨hN6, hG6⟩ := HN3.out.tally hT6 hS6
               have HN6 := Lib.hid hN6
               have HG6 := Lib.hid (HGo3.out.trans hG6)
               clear hT6 hS6 hN6 hG6))
          go_roundw
          case rel =>
            refine ⟨j + 1, by omega, by go_num, ?_, Lib.hid ?_⟩
            · rw [HA.out.2, HR.out.2]; first | done | rfl
            · rw [HA.out.1, HR.out.1]; exact ⟨_, _, _, _, HN6.out, HG6.out⟩
          case measure => simp [intOf]; omega
      · have HPn : RowKit.Hid (Calls Try.prog 27 #[.agg (feC x).toArray] W2 fun e w' => e = .returned (.tuple #[.slice none 0 0, .int .i64 (mayF x.1.1 x.1.2.length)]) ∧ Below W2.heap.size W2 w') := Lib.hid (put_not x.1.1 x.2.1 x.1.2.length x.2.2 W2 hm)
        have HR := Lib.hid (send1_not (s := S1) (f := x.1) hm)
        obtain ⟨z, gz⟩ : ∃ z, mayF x.1.1 x.1.2.length = z := ⟨_, rfl⟩
        rw [gz] at HPn hm
        have hz : (z == 0) = false := by simpa using hm
        clear gz hm HX2 HY2 HX hsm1 hS6 hmx
        go_wp2_with fail
        refine HPn.out.mono ?_
        rintro e w3 ⟨rfl, hb3⟩
        have HN3 := Lib.hid (HN2.out.below hb3)
        have HGo3 := Lib.hid (HGo2.out.trans (NtGo.below hb3))
        clear hb3
        go_wp2
        go_roundw
        case rel =>
          refine ⟨j + 1, by omega, by go_num, ?_, Lib.hid ?_⟩
          · rw [HA.out.2, HR.out.2]; first | done | rfl
          · rw [HA.out.1, HR.out.1]; exact ⟨_, _, _, _, HN3.out, HGo3.out⟩
        case measure => simp [intOf]; omega
    · obtain rfl : nf = j := by omega
      have hall : Fs.take nf = Fs := List.take_of_length_le (by rw [Hl.out]; exact Nat.le_refl _)
      rw [hall] at hin ⊢
      go_wp2
      go_ret
      exact ⟨rfl, hin.out⟩
end Go.Proofs.Ytibbibpfnpjjdaa
