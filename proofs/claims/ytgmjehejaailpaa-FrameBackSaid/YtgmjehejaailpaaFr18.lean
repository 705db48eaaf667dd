/- frame.Take. -/
import Derived.Test.YtgmjehejaailpaaFr17
import Derived.Test.YtgmjehejaailpaaSl2
namespace Go.Proofs.Ytgmjehejaailpaa
open Go.RowKit
set_option linter.unusedSimpArgs false
set_option linter.unusedVariables false

theorem equal_b {b : Bool} (A A' : Option Addr) (n c n' c' : Nat) (P Q : List Nat) (w : World) (h : RdS w w.heap.size 1 A n c (rowsV f8 P)) (h' : RdS w w.heap.size 1 A' n' c' (rowsV f8 Q)) (hb : ((txt P).toList == (txt Q).toList) = b) :
    Calls Try.prog 25 #[.slice A n c, .slice A' n' c'] w fun e w' => e = .returned (.bool b) ∧ Below w.heap.size w w' :=
  (equal_any A A' n c n' c' P Q w h h').mono fun e w' ⟨h1, h2⟩ => ⟨by rw [h1, hb], h2 ▸ Below.refl _ _⟩
/-- What a Take gives, and where. -/
def GivesT (w : World) (L : List Nat) (e : Ending) (w' : World) : Prop :=
  ∃ A c, e = .returned (.tuple #[.agg (frCells (takeR L).1 A (takeR L).2.1.length c).toArray, .int .i64 (takeR L).2.2]) ∧ RdS w' w'.heap.size 1 A (takeR L).2.1.length c (rowsV f8 (takeR L).2.1) ∧ (∀ a, A = some a → 0 < (takeR L).2.1.length → w.heap.size ≤ a.block) ∧ Below w.heap.size w w'
theorem gives_not {w w' : World} {L : List Nat} {e : Ending} (h : okF L = false) (he : e = .returned (.tuple #[.agg (frCells zeroF none 0 0).toArray, .int .i64 2])) (hb : Below w.heap.size w w') : GivesT w L e w' := by
  have ht : takeR L = (zeroF, [], 2) := by unfold takeR; rw [if_neg (by rw [h]; decide)]
  unfold GivesT
  rw [ht]
  exact ⟨none, 0, he, rds_nil _ _ _, fun a ha => (by cases ha), hb⟩
theorem gives_yes {w w' : World} {L : List Nat} {e : Ending} {A : Option Addr} {c : Nat} (h : okF L = true) (he : e = .returned (.tuple #[.agg (frCells (frOf L) A (bodyOf L).length c).toArray, .int .i64 0])) (hr : RdS w' w'.heap.size 1 A (bodyOf L).length c (rowsV f8 (bodyOf L)))
    (hf : ∀ a, A = some a → 0 < (bodyOf L).length → w.heap.size ≤ a.block) (hb : Below w.heap.size w w') : GivesT w L e w' := by
  have ht : takeR L = (frOf L, bodyOf L, 0) := by unfold takeR; rw [if_pos h]
  unfold GivesT
  rw [ht]
  exact ⟨A, c, he, hr, hf, hb⟩
set_option maxRecDepth 100000 in
set_option maxHeartbeats 4000000 in
theorem take_c (A : Option Addr) (n c : Nat) (L : List Nat) (w : World) (h : RdS w w.heap.size 1 A n c (rowsV f8 L)) (hb : ∀ b ∈ L, b < 256) (h19 : 19 ≤ n) (h16 : n ≤ 16403) (hS : sealB L = false)  :
    Calls Try.prog 17 #[.slice A n c] w fun e w' => e = .returned (.tuple #[.agg (frCells zeroF none 0 0).toArray, .int .i64 2]) ∧ Below w.heap.size w w' := by
  have hl := h.rlen f8_len (by decide)
  obtain ⟨E, hE4⟩ : ∃ E : Nat, E + 4 = n := ⟨n - 4, by omega⟩
  have hEn : E ≤ n := by omega
  have hnc := h.le
  have hEc : E ≤ c := by omega
  have hE1 : 15 ≤ E := by omega
  have hE2 : E ≤ 16399 := by omega

  have hx1 := h.take_ E hEn
  have hx2 := h.low_ hEn
  rw [← rowsV_take f8 f8_len] at hx1
  rw [← rowsV_drop f8 f8_len] at hx2
  obtain ⟨A2, gA2⟩ : ∃ x, (if c = E then A else A.map (·.add (E * 1))) = x := ⟨_, rfl⟩
  obtain ⟨n2, gn2⟩ : ∃ x, n - E = x := ⟨_, rfl⟩
  obtain ⟨c2, gc2⟩ : ∃ x, c - E = x := ⟨_, rfl⟩
  obtain ⟨K, gK⟩ : ∃ x, L.take E = x := ⟨_, rfl⟩
  obtain ⟨D, gD⟩ : ∃ x, L.drop E = x := ⟨_, rfl⟩
  have hbK : ∀ b ∈ K, b < 256 := by rw [← gK]; exact fun b hm => hb b (List.mem_of_mem_take hm)
  have hbD : ∀ b ∈ D, b < 256 := by rw [← gD]; exact fun b hm => hb b (List.mem_of_mem_drop hm)
  have hbool : ((txt (le4 (crc K))).toList == (txt D).toList) = false := by
    rw [txt_eq (le4_lt _) hbD, ← hS]
    unfold sealB
    rw [hl, show n - 4 = E by omega, gK, gD]
  rw [gK] at hx1
  rw [gA2, gn2, gc2, gD] at hx2
  have HEq := Lib.hid hbool
  have HbK := Lib.hid hbK
  have HA2 := Lib.hid gA2
  have Hn2 := Lib.hid gn2
  have Hc2 := Lib.hid gc2
  have HR0 := Lib.hid h
  have HK0 := Lib.hid hx1
  have HD0 := Lib.hid hx2
  have s4 : (n : Int) - 4 = (E : Int) := by omega
  have s5 : IntKind.i64.wrap (E : Int) = (E : Int) := IntWalk.i64_in _ (by omega)
  have t1 : decide ((E : Int) < 15) = false := decide_eq_false (by omega)
  have t2 : decide (16399 < (E : Int)) = false := decide_eq_false (by omega)
  clear hbool hbK hbD gA2 gn2 gc2 gK gD hx1 hx2 hb hS hl h19 h16 hE4 h
  have HO0 : RowKit.Hid (Whole (w.alloc (.cells #[.int .i64 0, .int .i64 0, .int .i64 0, .int .i64 0, .int .i64 0, .int .i64 0, .slice none 0 0] 24)) w.heap.size 24 [.int .i64 0, .int .i64 0, .int .i64 0, .int .i64 0, .int .i64 0, .int .i64 0, .slice none 0 0]) := Lib.hid (Whole.new_ _ _ _)
  have HB0 : RowKit.Hid (Below w.heap.size w (w.alloc (.cells #[.int .i64 0, .int .i64 0, .int .i64 0, .int .i64 0, .int .i64 0, .int .i64 0, .slice none 0 0] 24))) := Lib.hid (below1 _ _)
  go_enter Try.func17, Try.ntmps17
  go_upto_region 2 with fail
  clear s4 s5
  obtain ⟨W1, gW1⟩ : ∃ x, w.alloc (.cells #[.int .i64 0, .int .i64 0, .int .i64 0, .int .i64 0, .int .i64 0, .int .i64 0, .slice none 0 0] 24) = x := ⟨_, rfl⟩
  obtain ⟨g0, gg0⟩ : ∃ x, w.heap.size = x := ⟨_, rfl⟩
  have HG0 : RowKit.Hid (w.heap.size ≤ g0 ∧ g0 ≤ w.heap.size) := Lib.hid ⟨Nat.le_of_eq gg0, Nat.le_of_eq gg0.symm⟩
  rw [gW1] at HO0 HB0 ⊢
  rw [gg0] at HO0 ⊢
  clear gW1 gg0
  have HK1 := Lib.hid (HK0.out.bl HB0.out)
  have HD1 := Lib.hid (HD0.out.bl HB0.out)
  refine wp_region_reg (Nil_) (by kernel_rfl) ?_
  apply wpR_next 0 (some 9)
  · simp only [List.getElem?_toArray, List.getElem?_cons_succ, List.getElem?_cons_zero]; exact rfl
  · rfl
  · kernel_rfl
  · kernel_rfl
  · kernel_rfl
  · exact fun _ _ _ _ h => h
  apply Exists.intro
  apply And.intro
  · apply yr_run; rfl; intro w' hw'; go_simp; (try with_reducible rfl)
  simp only [Act.put, List.setIfInBounds_toArray, List.set_cons_zero, List.set_cons_succ]
  apply wpR_next 1 (some 10)
  · simp only [List.getElem?_toArray, List.getElem?_cons_succ, List.getElem?_cons_zero]; exact rfl
  · rfl
  · kernel_rfl
  · kernel_rfl
  · kernel_rfl
  · exact fun _ _ _ _ h => h
  apply Exists.intro
  apply And.intro
  · apply yr_run; rfl; intro w' hw'; go_simp; (try with_reducible rfl)
  simp only [Act.put, List.setIfInBounds_toArray, List.set_cons_zero, List.set_cons_succ]
  apply wpR_next 2 (some 11)
  · simp only [List.getElem?_toArray, List.getElem?_cons_succ, List.getElem?_cons_zero]; exact rfl
  · rfl
  · kernel_rfl
  · kernel_rfl
  · kernel_rfl
  · exact fun _ _ _ _ h => h
  apply Exists.intro
  apply And.intro
  · apply yr_run; rfl; intro w' hw'; go_simp; (try with_reducible rfl)
  simp only [Act.put, List.setIfInBounds_toArray, List.set_cons_zero, List.set_cons_succ]
  apply wpR_next 3 (some 12)
  · simp only [List.getElem?_toArray, List.getElem?_cons_succ, List.getElem?_cons_zero]; exact rfl
  · rfl
  · kernel_rfl
  · kernel_rfl
  · kernel_rfl
  · exact fun _ _ _ _ h => h
  apply Exists.intro
  apply And.intro
  · apply yr_run; rfl; intro w' hw'; go_simp; (try with_reducible rfl)
  simp only [Act.put, List.setIfInBounds_toArray, List.set_cons_zero, List.set_cons_succ]
  apply wpR_next 4 (some 13)
  · simp only [List.getElem?_toArray, List.getElem?_cons_succ, List.getElem?_cons_zero]; exact rfl
  · rfl
  · kernel_rfl
  · kernel_rfl
  · kernel_rfl
  · exact fun _ _ _ _ h => h
  apply Exists.intro
  apply And.intro
  · apply yr_run; rfl; intro w' hw'; go_simp; (try with_reducible rfl)
  simp only [Act.put, List.setIfInBounds_toArray, List.set_cons_zero, List.set_cons_succ]
  apply wpR_next 5 (some 14)
  · simp only [List.getElem?_toArray, List.getElem?_cons_succ, List.getElem?_cons_zero]; exact rfl
  · rfl
  · kernel_rfl
  · kernel_rfl
  · kernel_rfl
  · exact fun _ _ _ _ h => h
  apply Exists.intro
  apply And.intro
  · apply yr_run; rfl; intro w' hw'; go_simp; (try with_reducible rfl)
  simp only [Act.put, List.setIfInBounds_toArray, List.set_cons_zero, List.set_cons_succ]
  apply wpR_next 6 (some 15)
  · simp only [List.getElem?_toArray, List.getElem?_cons_succ, List.getElem?_cons_zero]; exact rfl
  · rfl
  · kernel_rfl
  · kernel_rfl
  · kernel_rfl
  · exact fun _ _ _ _ h => h
  apply Exists.intro
  apply And.intro
  · apply yr_run; rfl; intro w' hw'; go_simp; (try with_reducible rfl)
  simp only [Act.put, List.setIfInBounds_toArray, List.set_cons_zero, List.set_cons_succ]
  apply wpR_next 7 (some 16)
  · simp only [List.getElem?_toArray, List.getElem?_cons_succ, List.getElem?_cons_zero]; exact rfl
  · rfl
  · kernel_rfl
  · kernel_rfl
  · kernel_rfl
  · exact fun _ _ _ _ h => h
  apply Exists.intro
  apply And.intro
  · apply yr_run; rfl; intro w' hw'; go_simp; (try with_reducible rfl)
  simp only [Act.put, List.setIfInBounds_toArray, List.set_cons_zero, List.set_cons_succ]
  apply wpR_next 8 (some 17)
  · simp only [List.getElem?_toArray, List.getElem?_cons_succ, List.getElem?_cons_zero]; exact rfl
  · rfl
  · kernel_rfl
  · kernel_rfl
  · kernel_rfl
  · exact fun _ _ _ _ h => h
  apply Exists.intro
  apply And.intro
  · apply yr_run; rfl; intro w' hw'; go_simp; (try with_reducible rfl)
  simp only [Act.put, List.setIfInBounds_toArray, List.set_cons_zero, List.set_cons_succ]
  apply wpR_next 9 (some 18)
  · simp only [List.getElem?_toArray, List.getElem?_cons_succ, List.getElem?_cons_zero]; exact rfl
  · rfl
  · kernel_rfl
  · kernel_rfl
  · kernel_rfl
  · exact fun _ _ _ _ h => h
  apply Exists.intro
  apply And.intro
  · exact yr_run (by rfl) (fun w' h => exec_slice_high 22 5 (.tmp 16) (.tmp 17) rfl Try.underlying22 (s := 1) (by kernel_rfl) rfl rfl hEc)
  simp only [Act.put, List.setIfInBounds_toArray, List.set_cons_zero, List.set_cons_succ]
  apply wpR_next 11 (some 20)
  · simp only [List.getElem?_toArray, List.getElem?_cons_succ, List.getElem?_cons_zero]; exact rfl
  · rfl
  · kernel_rfl
  · kernel_rfl
  · kernel_rfl
  · exact fun _ _ _ _ h => h
  apply Exists.intro
  apply And.intro
  · apply yr_run; rfl; intro w' hw'; go_simp; (try with_reducible rfl)
  simp only [Act.put, List.setIfInBounds_toArray, List.set_cons_zero, List.set_cons_succ]
  apply wpR_next 12 (some 21)
  · simp only [List.getElem?_toArray, List.getElem?_cons_succ, List.getElem?_cons_zero]; exact rfl
  · rfl
  · kernel_rfl
  · kernel_rfl
  · kernel_rfl
  · exact fun _ _ _ _ h => h
  apply Exists.intro
  apply And.intro
  · apply yr_run; rfl; intro w' hw'; go_simp; (try with_reducible rfl)
  simp only [Act.put, List.setIfInBounds_toArray, List.set_cons_zero, List.set_cons_succ]
  apply wpR_next 13 (some 22)
  · simp only [List.getElem?_toArray, List.getElem?_cons_succ, List.getElem?_cons_zero]; exact rfl
  · rfl
  · kernel_rfl
  · kernel_rfl
  · kernel_rfl
  · exact fun _ _ _ _ h => h
  apply Exists.intro
  apply And.intro
  · exact yr_run (by rfl) (fun w' h => exec_slice_low_as 22 5 (.tmp 20) (.tmp 21) rfl Try.underlying22 (s := 1) (by kernel_rfl) rfl rfl hEn HA2.out Hn2.out Hc2.out)
  simp only [Act.put, List.setIfInBounds_toArray, List.set_cons_zero, List.set_cons_succ]
  apply wpR_call 10 (some 19)
  · simp only [List.getElem?_toArray, List.getElem?_cons_succ, List.getElem?_cons_zero]; exact rfl
  · rfl
  · kernel_rfl
  · rfl
  · intro w'; go_simp; first | done | exact ⟨rfl, rfl⟩ | with_reducible rfl
  intro w' hw'
  refine (sumbytes_any A E c K w' (HK1.out.dr.bl hw') HbK.out (by unfold maxLen; omega)).mono ?_
  rintro e w'' ⟨g, rfl, hg, hwh, hbl⟩
  have hd2 := (HD1.out.dr.bl hw').bl hbl
  have HQ : RowKit.Hid (∀ w1, Kept Nil_ w'' w1 → Calls Try.prog 25 #[.slice (some ⟨g, 0, none⟩) 4 4, .slice A2 n2 c2] w1 fun e w3 => e = .returned (.bool false) ∧ Below w1.heap.size w1 w3) := Lib.hid (fun w1 hk => have hB : Below w''.heap.size w'' w1 := hk.below (Nat.le_refl _) (fun _ _ h => h); equal_b _ A2 4 4 n2 c2 _ D w1 ((RdS.of_whole hwh rfl).bl hB) (hd2.bl hB) HEq.out)
  refine ⟨_, rfl, Kept.of_below hbl, ?_⟩
  have HX : RowKit.Hid (Ext W1.drew w'') := Lib.hid (Ext.trans hw' hbl)
  obtain ⟨V2, gV2⟩ : ∃ x, w'' = x := ⟨_, rfl⟩
  rw [gV2] at HX HQ ⊢
  clear hw' hbl hwh hg hd2 gV2
  simp only [Act.put, List.setIfInBounds_toArray, List.set_cons_zero, List.set_cons_succ]
  apply wpR_next 14 (some 23)
  · simp only [List.getElem?_toArray, List.getElem?_cons_succ, List.getElem?_cons_zero]; exact rfl
  · rfl
  · kernel_rfl
  · kernel_rfl
  · kernel_rfl
  · exact fun _ _ _ _ h => h
  apply Exists.intro
  apply And.intro
  · apply yr_call; rfl; rotate_left; intro w' hw'; exact HQ.out w' hw'; intro w'; go_simp
  simp only [Act.put, List.setIfInBounds_toArray, List.set_cons_zero, List.set_cons_succ]
  apply wpR_next 15 (some 24)
  · simp only [List.getElem?_toArray, List.getElem?_cons_succ, List.getElem?_cons_zero]; exact rfl
  · rfl
  · kernel_rfl
  · kernel_rfl
  · kernel_rfl
  · exact fun _ _ _ _ h => h
  apply Exists.intro
  apply And.intro
  · apply yr_run; rfl; intro w' hw'; go_simp; (try with_reducible rfl)
  simp only [Act.put, List.setIfInBounds_toArray, List.set_cons_zero, List.set_cons_succ]
  apply wpR_next 16 (some 25)
  · simp only [List.getElem?_toArray, List.getElem?_cons_succ, List.getElem?_cons_zero]; exact rfl
  · rfl
  · kernel_rfl
  · kernel_rfl
  · kernel_rfl
  · exact fun _ _ _ _ h => h
  apply Exists.intro
  apply And.intro
  · apply yr_run; rfl; intro w' hw'; go_simp; (try with_reducible rfl)
  simp only [Act.put, List.setIfInBounds_toArray, List.set_cons_zero, List.set_cons_succ]
  refine wpR_done (by kernel_rfl) ?_ _
  intro W2 hw2
  have HX2 : RowKit.Hid (Ext W1 W2) := Lib.hid (Ext.trans ((Below.refl _ _).drew) (Ext.trans HX.out hw2))
  clear hw2 HX HQ HK1 HD1 HK0 HD0
  have HO2 := Lib.hid (HO0.out.below HX2.out)
  have HB2 : RowKit.Hid (Below w.heap.size w W2) := Lib.hid (bel_bl HB0.out HX2.out)
  have HG1 : RowKit.Hid (g0 < W2.heap.size) := Lib.hid HO2.out.lt
  clear HO0 HB0 HX2
  go_upto_region 3 with fail
  refine wp_region_lit ?_
  refine wl_read (v := ?_) (some 26) rfl (by rfl) ?_ ?_
  rotate_left
  · go_simp; (try with_reducible rfl)
  simp only [Act.put, List.setIfInBounds_toArray, List.set_cons_zero, List.set_cons_succ]
  refine wpList_store_row rfl 24 (.tmp 2) (.tmp 26) rfl g0 #[.int .i64 0, .int .i64 0, .int .i64 0, .int .i64 0, .int .i64 0, .int .i64 0, .slice none 0 0] rfl rfl 24 #[.int .i64 0, .int .i64 0, .int .i64 0, .int .i64 0, .int .i64 0, .int .i64 0, .slice none 0 0] HO2.out (by kernel_rfl) rfl (by simp [Value.oneCell']) ?_
  have HO9 : RowKit.Hid (Whole (W2.setRow g0 #[.int .i64 0, .int .i64 0, .int .i64 0, .int .i64 0, .int .i64 0, .int .i64 0, .slice none 0 0]) g0 24 [.int .i64 0, .int .i64 0, .int .i64 0, .int .i64 0, .int .i64 0, .int .i64 0, .slice none 0 0]) := Lib.hid (setRow_heap W2 g0 _ _ _ _ HO2.out)
  have HB9 : RowKit.Hid (Below w.heap.size w (W2.setRow g0 #[.int .i64 0, .int .i64 0, .int .i64 0, .int .i64 0, .int .i64 0, .int .i64 0, .slice none 0 0])) := Lib.hid (below_row HB2.out HG0.out.1 _)
  obtain ⟨W9, gW9⟩ : ∃ x, W2.setRow g0 #[.int .i64 0, .int .i64 0, .int .i64 0, .int .i64 0, .int .i64 0, .int .i64 0, .slice none 0 0] = x := ⟨_, rfl⟩
  rw [gW9] at HO9 HB9 ⊢
  clear gW9 HO2 HB2
  have x0 := HO9.out.cell (i := 0) rfl
  have x1 := HO9.out.cell (i := 1) rfl
  have x2 := HO9.out.cell (i := 2) rfl
  have x3 := HO9.out.cell (i := 3) rfl
  have x4 := HO9.out.cell (i := 4) rfl
  have x5 := HO9.out.cell (i := 5) rfl
  have x6 := HO9.out.cell (i := 6) rfl
  go_wp2
  refine bodyPost_ret (v := .tuple #[.agg #[.int .i64 0, .int .i64 0, .int .i64 0, .int .i64 0, .int .i64 0, .int .i64 0, .slice none 0 0], .int .i64 2]) (by simp [results, Try.results17, go_sem, x0, x1, x2, x3, x4, x5, x6]) rfl ⟨rfl, HB9.out⟩
set_option maxRecDepth 100000 in
set_option maxHeartbeats 4000000 in
theorem take_d {z : Int} (A : Option Addr) (n c : Nat) (L : List Nat) (w : World) (h : RdS w w.heap.size 1 A n c (rowsV f8 L)) (hb : ∀ b ∈ L, b < 256) (h19 : 19 ≤ n) (h16 : n ≤ 16403) (hS : sealB L = true) (hm : mayF (frOf L) (bodyOf L).length = z) :
    Calls Try.prog 17 #[.slice A n c] w (GivesT w L) := by
  have hl := h.rlen f8_len (by decide)
  obtain ⟨E, hE4⟩ : ∃ E : Nat, E + 4 = n := ⟨n - 4, by omega⟩
  have hEn : E ≤ n := by omega
  have hnc := h.le
  have hEc : E ≤ c := by omega
  have hE1 : 15 ≤ E := by omega
  have hE2 : E ≤ 16399 := by omega
  obtain ⟨bb, off, rfl, hbB, -⟩ := h.place f8_len (by decide) (by omega)
  obtain ⟨a0, a1, a2, a3, a4, a5, a6, a7, a8, a9, b0, b1, b2, b3, b4, R, hL⟩ := heads (L := L) (by omega)
  have e0 : (rowsV f8 L)[0]? = some (.int .u8 (a0 : Int)) := by rw [hL]; rfl
  have e1 : (rowsV f8 L)[1]? = some (.int .u8 (a1 : Int)) := by rw [hL]; rfl
  have e2 : (rowsV f8 L)[2]? = some (.int .u8 (a2 : Int)) := by rw [hL]; rfl
  have e3 : (rowsV f8 L)[3]? = some (.int .u8 (a3 : Int)) := by rw [hL]; rfl
  have e4 : (rowsV f8 L)[4]? = some (.int .u8 (a4 : Int)) := by rw [hL]; rfl
  have e5 : (rowsV f8 L)[5]? = some (.int .u8 (a5 : Int)) := by rw [hL]; rfl
  have e6 : (rowsV f8 L)[6]? = some (.int .u8 (a6 : Int)) := by rw [hL]; rfl
  have e7 : (rowsV f8 L)[7]? = some (.int .u8 (a7 : Int)) := by rw [hL]; rfl
  have e8 : (rowsV f8 L)[8]? = some (.int .u8 (a8 : Int)) := by rw [hL]; rfl
  have e9 : (rowsV f8 L)[9]? = some (.int .u8 (a9 : Int)) := by rw [hL]; rfl
  have e10 : (rowsV f8 L)[10]? = some (.int .u8 (b0 : Int)) := by rw [hL]; rfl
  have e11 : (rowsV f8 L)[11]? = some (.int .u8 (b1 : Int)) := by rw [hL]; rfl
  have e12 : (rowsV f8 L)[12]? = some (.int .u8 (b2 : Int)) := by rw [hL]; rfl
  have e13 : (rowsV f8 L)[13]? = some (.int .u8 (b3 : Int)) := by rw [hL]; rfl
  have e14 : (rowsV f8 L)[14]? = some (.int .u8 (b4 : Int)) := by rw [hL]; rfl
  have k0 : a0 < 256 := hb _ (by rw [hL]; simp)
  have k1 : a1 < 256 := hb _ (by rw [hL]; simp)
  have k2 : a2 < 256 := hb _ (by rw [hL]; simp)
  have k3 : a3 < 256 := hb _ (by rw [hL]; simp)
  have k4 : a4 < 256 := hb _ (by rw [hL]; simp)
  have k5 : a5 < 256 := hb _ (by rw [hL]; simp)
  have k6 : a6 < 256 := hb _ (by rw [hL]; simp)
  have k7 : a7 < 256 := hb _ (by rw [hL]; simp)
  have k8 : a8 < 256 := hb _ (by rw [hL]; simp)
  have k9 : a9 < 256 := hb _ (by rw [hL]; simp)
  have k10 : b0 < 256 := hb _ (by rw [hL]; simp)
  have k11 : b1 < 256 := hb _ (by rw [hL]; simp)
  have k12 : b2 < 256 := hb _ (by rw [hL]; simp)
  have k13 : b3 < 256 := hb _ (by rw [hL]; simp)
  have k14 : b4 < 256 := hb _ (by rw [hL]; simp)
  have hfr : frOf L = (⟨(a0 : Int), (a1 : Int), (a2 : Int), num4 a3 a4 a5 a6, num4 a7 a8 a9 b0, num4 b1 b2 b3 b4⟩ : FrT) := by rw [hL]; rfl
  have hbd : bodyOf L = (L.take E).drop 15 := by unfold bodyOf; rw [hl, show n - 4 = E by omega]
  have hx3 := (h.take_ E hEn).low_ hE1
  rw [← rowsV_take f8 f8_len, ← rowsV_drop f8 f8_len, ← hbd] at hx3
  have hbl := hx3.rlen f8_len (by decide)
  obtain ⟨Bd, gBd⟩ : ∃ x, bodyOf L = x := ⟨_, rfl⟩
  rw [gBd] at hx3 hbl hm
  rw [hfr] at hm
  rw [← hbl] at hx3
  have HBl := Lib.hid hbl.symm
  have HBd := Lib.hid gBd
  obtain ⟨cB, gcB⟩ : ∃ x, c - 15 = x := ⟨_, rfl⟩
  have gaB : (if c = 15 then some (⟨bb, off, none⟩ : Addr) else (some (⟨bb, off, none⟩ : Addr)).map (·.add (15 * 1))) = some ⟨bb, off + 15, none⟩ := by rw [if_neg (by omega)]; simp [Addr.add_lit]
  rw [gcB, gaB] at hx3
  have HcB := Lib.hid gcB
  have HaB := Lib.hid gaB
  have HBX := Lib.hid hx3
  have HFr := Lib.hid hfr
  have hBm : Bd.length ≤ 16384 := by omega
  have HbB := Lib.hid hbB
  have hy3 := h.low_ (show 3 ≤ n by omega)
  rw [← rowsV_drop f8 f8_len, if_neg (by omega)] at hy3
  have HY3 : RowKit.Hid (RdS w w.heap.size 1 (some ⟨bb, off + 3, none⟩) (n - 3) (c - 3) (rowsV f8 (L.drop 3))) := Lib.hid (by simpa [Addr.add_lit] using hy3)
  have HN3 : RowKit.Hid (∀ w', RdS w' w'.heap.size 1 (some ⟨bb, off + 3, none⟩) (n - 3) (c - 3) (rowsV f8 (L.drop 3)) → Calls Try.prog 27 #[.slice (some ⟨bb, off + 3, none⟩) (n - 3) (c - 3)] w' fun e w'' => e = .returned (.int .i64 (num4 a3 a4 a5 a6)) ∧ Below w'.heap.size w' w'') := Lib.hid (fun w' hr =>
    (number_any bb (off + 3) (n - 3) (c - 3) (L.drop 3) a3 a4 a5 a6 w' hr (by omega) (by rw [hL]; rfl) (by rw [hL]; rfl) (by rw [hL]; rfl) (by rw [hL]; rfl) k3 k4 k5 k6).mono fun e w'' h => ⟨h.1, h.2 ▸ Below.refl _ _⟩)
  have HA3 : RowKit.Hid ((if c = 3 then some (⟨bb, off, none⟩ : Addr) else (some (⟨bb, off, none⟩ : Addr)).map (·.add (3 * 1))) = some ⟨bb, off + 3, none⟩) := Lib.hid (by rw [if_neg (by omega)]; simp [Addr.add_lit])
  have hN3 : 3 ≤ n := by omega
  have hy7 := h.low_ (show 7 ≤ n by omega)
  rw [← rowsV_drop f8 f8_len, if_neg (by omega)] at hy7
  have HY7 : RowKit.Hid (RdS w w.heap.size 1 (some ⟨bb, off + 7, none⟩) (n - 7) (c - 7) (rowsV f8 (L.drop 7))) := Lib.hid (by simpa [Addr.add_lit] using hy7)
  have HN7 : RowKit.Hid (∀ w', RdS w' w'.heap.size 1 (some ⟨bb, off + 7, none⟩) (n - 7) (c - 7) (rowsV f8 (L.drop 7)) → Calls Try.prog 27 #[.slice (some ⟨bb, off + 7, none⟩) (n - 7) (c - 7)] w' fun e w'' => e = .returned (.int .i64 (num4 a7 a8 a9 b0)) ∧ Below w'.heap.size w' w'') := Lib.hid (fun w' hr =>
    (number_any bb (off + 7) (n - 7) (c - 7) (L.drop 7) a7 a8 a9 b0 w' hr (by omega) (by rw [hL]; rfl) (by rw [hL]; rfl) (by rw [hL]; rfl) (by rw [hL]; rfl) k7 k8 k9 k10).mono fun e w'' h => ⟨h.1, h.2 ▸ Below.refl _ _⟩)
  have HA7 : RowKit.Hid ((if c = 7 then some (⟨bb, off, none⟩ : Addr) else (some (⟨bb, off, none⟩ : Addr)).map (·.add (7 * 1))) = some ⟨bb, off + 7, none⟩) := Lib.hid (by rw [if_neg (by omega)]; simp [Addr.add_lit])
  have hN7 : 7 ≤ n := by omega
  have hy11 := h.low_ (show 11 ≤ n by omega)
  rw [← rowsV_drop f8 f8_len, if_neg (by omega)] at hy11
  have HY11 : RowKit.Hid (RdS w w.heap.size 1 (some ⟨bb, off + 11, none⟩) (n - 11) (c - 11) (rowsV f8 (L.drop 11))) := Lib.hid (by simpa [Addr.add_lit] using hy11)
  have HN11 : RowKit.Hid (∀ w', RdS w' w'.heap.size 1 (some ⟨bb, off + 11, none⟩) (n - 11) (c - 11) (rowsV f8 (L.drop 11)) → Calls Try.prog 27 #[.slice (some ⟨bb, off + 11, none⟩) (n - 11) (c - 11)] w' fun e w'' => e = .returned (.int .i64 (num4 b1 b2 b3 b4)) ∧ Below w'.heap.size w' w'') := Lib.hid (fun w' hr =>
    (number_any bb (off + 11) (n - 11) (c - 11) (L.drop 11) b1 b2 b3 b4 w' hr (by omega) (by rw [hL]; rfl) (by rw [hL]; rfl) (by rw [hL]; rfl) (by rw [hL]; rfl) k11 k12 k13 k14).mono fun e w'' h => ⟨h.1, h.2 ▸ Below.refl _ _⟩)
  have HA11 : RowKit.Hid ((if c = 11 then some (⟨bb, off, none⟩ : Addr) else (some (⟨bb, off, none⟩ : Addr)).map (·.add (11 * 1))) = some ⟨bb, off + 11, none⟩) := Lib.hid (by rw [if_neg (by omega)]; simp [Addr.add_lit])
  have hN11 : 11 ≤ n := by omega
  have wk0 : IntKind.i64.wrap (a0 : Int) = (a0 : Int) := IntWalk.i64_in _ (by omega)
  have nn0 : 0 < n := by omega
  have wk1 : IntKind.i64.wrap (a1 : Int) = (a1 : Int) := IntWalk.i64_in _ (by omega)
  have nn1 : (1 : Int) < (n : Int) := by omega
  have wk2 : IntKind.i64.wrap (a2 : Int) = (a2 : Int) := IntWalk.i64_in _ (by omega)
  have nn2 : (2 : Int) < (n : Int) := by omega
  clear e3 k3 e4 k4 e5 k5 e6 k6 e7 k7 e8 k8 e9 k9 e10 k10 e11 k11 e12 k12 e13 k13 e14 k14 k0 k1 k2 hbd hx3 hbl gBd gcB gaB hfr hbB hy3 hy7 hy11 hL
  have hx1 := h.take_ E hEn
  have hx2 := h.low_ hEn
  rw [← rowsV_take f8 f8_len] at hx1
  rw [← rowsV_drop f8 f8_len] at hx2
  obtain ⟨A2, gA2⟩ : ∃ x, (if c = E then some (⟨bb, off, none⟩ : Addr) else (some (⟨bb, off, none⟩ : Addr)).map (·.add (E * 1))) = x := ⟨_, rfl⟩
  obtain ⟨n2, gn2⟩ : ∃ x, n - E = x := ⟨_, rfl⟩
  obtain ⟨c2, gc2⟩ : ∃ x, c - E = x := ⟨_, rfl⟩
  obtain ⟨K, gK⟩ : ∃ x, L.take E = x := ⟨_, rfl⟩
  obtain ⟨D, gD⟩ : ∃ x, L.drop E = x := ⟨_, rfl⟩
  have hbK : ∀ b ∈ K, b < 256 := by rw [← gK]; exact fun b hm => hb b (List.mem_of_mem_take hm)
  have hbD : ∀ b ∈ D, b < 256 := by rw [← gD]; exact fun b hm => hb b (List.mem_of_mem_drop hm)
  have hbool : ((txt (le4 (crc K))).toList == (txt D).toList) = true := by
    rw [txt_eq (le4_lt _) hbD, ← hS]
    unfold sealB
    rw [hl, show n - 4 = E by omega, gK, gD]
  rw [gK] at hx1
  rw [gA2, gn2, gc2, gD] at hx2
  have HOk : RowKit.Hid (okF L = decide (mayF (⟨(a0 : Int), (a1 : Int), (a2 : Int), num4 a3 a4 a5 a6, num4 a7 a8 a9 b0, num4 b1 b2 b3 b4⟩ : FrT) Bd.length = 0)) := Lib.hid (by unfold okF; rw [hS, HBd.out, HFr.out, decide_eq_true (by omega : 19 ≤ L.length ∧ L.length ≤ 16403)]; simp)
  have HEq := Lib.hid hbool
  have HbK := Lib.hid hbK
  have HA2 := Lib.hid gA2
  have Hn2 := Lib.hid gn2
  have Hc2 := Lib.hid gc2
  have HR0 := Lib.hid h
  have HK0 := Lib.hid hx1
  have HD0 := Lib.hid hx2
  have s4 : (n : Int) - 4 = (E : Int) := by omega
  have s5 : IntKind.i64.wrap (E : Int) = (E : Int) := IntWalk.i64_in _ (by omega)
  have t1 : decide ((E : Int) < 15) = false := decide_eq_false (by omega)
  have t2 : decide (16399 < (E : Int)) = false := decide_eq_false (by omega)
  have HMz := Lib.hid hm
  clear hm hbool hbK hbD gA2 gn2 gc2 gK gD hx1 hx2 hb hS hl h19 h16 hE4 h
  have HO0 : RowKit.Hid (Whole (w.alloc (.cells #[.int .i64 0, .int .i64 0, .int .i64 0, .int .i64 0, .int .i64 0, .int .i64 0, .slice none 0 0] 24)) w.heap.size 24 [.int .i64 0, .int .i64 0, .int .i64 0, .int .i64 0, .int .i64 0, .int .i64 0, .slice none 0 0]) := Lib.hid (Whole.new_ _ _ _)
  have HB0 : RowKit.Hid (Below w.heap.size w (w.alloc (.cells #[.int .i64 0, .int .i64 0, .int .i64 0, .int .i64 0, .int .i64 0, .int .i64 0, .slice none 0 0] 24))) := Lib.hid (below1 _ _)
  go_enter Try.func17, Try.ntmps17
  go_upto_region 2 with fail
  clear s4 s5
  obtain ⟨W1, gW1⟩ : ∃ x, w.alloc (.cells #[.int .i64 0, .int .i64 0, .int .i64 0, .int .i64 0, .int .i64 0, .int .i64 0, .slice none 0 0] 24) = x := ⟨_, rfl⟩
  obtain ⟨g0, gg0⟩ : ∃ x, w.heap.size = x := ⟨_, rfl⟩
  have HG0 : RowKit.Hid (w.heap.size ≤ g0 ∧ g0 ≤ w.heap.size) := Lib.hid ⟨Nat.le_of_eq gg0, Nat.le_of_eq gg0.symm⟩
  rw [gW1] at HO0 HB0 ⊢
  rw [gg0] at HO0 ⊢
  clear gW1 gg0
  have HK1 := Lib.hid (HK0.out.bl HB0.out)
  have HD1 := Lib.hid (HD0.out.bl HB0.out)
  refine wp_region_reg (Nil_) (by kernel_rfl) ?_
  apply wpR_next 0 (some 9)
  · simp only [List.getElem?_toArray, List.getElem?_cons_succ, List.getElem?_cons_zero]; exact rfl
  · rfl
  · kernel_rfl
  · kernel_rfl
  · kernel_rfl
  · exact fun _ _ _ _ h => h
  apply Exists.intro
  apply And.intro
  · apply yr_run; rfl; intro w' hw'; go_simp; (try with_reducible rfl)
  simp only [Act.put, List.setIfInBounds_toArray, List.set_cons_zero, List.set_cons_succ]
  apply wpR_next 1 (some 10)
  · simp only [List.getElem?_toArray, List.getElem?_cons_succ, List.getElem?_cons_zero]; exact rfl
  · rfl
  · kernel_rfl
  · kernel_rfl
  · kernel_rfl
  · exact fun _ _ _ _ h => h
  apply Exists.intro
  apply And.intro
  · apply yr_run; rfl; intro w' hw'; go_simp; (try with_reducible rfl)
  simp only [Act.put, List.setIfInBounds_toArray, List.set_cons_zero, List.set_cons_succ]
  apply wpR_next 2 (some 11)
  · simp only [List.getElem?_toArray, List.getElem?_cons_succ, List.getElem?_cons_zero]; exact rfl
  · rfl
  · kernel_rfl
  · kernel_rfl
  · kernel_rfl
  · exact fun _ _ _ _ h => h
  apply Exists.intro
  apply And.intro
  · apply yr_run; rfl; intro w' hw'; go_simp; (try with_reducible rfl)
  simp only [Act.put, List.setIfInBounds_toArray, List.set_cons_zero, List.set_cons_succ]
  apply wpR_next 3 (some 12)
  · simp only [List.getElem?_toArray, List.getElem?_cons_succ, List.getElem?_cons_zero]; exact rfl
  · rfl
  · kernel_rfl
  · kernel_rfl
  · kernel_rfl
  · exact fun _ _ _ _ h => h
  apply Exists.intro
  apply And.intro
  · apply yr_run; rfl; intro w' hw'; go_simp; (try with_reducible rfl)
  simp only [Act.put, List.setIfInBounds_toArray, List.set_cons_zero, List.set_cons_succ]
  apply wpR_next 4 (some 13)
  · simp only [List.getElem?_toArray, List.getElem?_cons_succ, List.getElem?_cons_zero]; exact rfl
  · rfl
  · kernel_rfl
  · kernel_rfl
  · kernel_rfl
  · exact fun _ _ _ _ h => h
  apply Exists.intro
  apply And.intro
  · apply yr_run; rfl; intro w' hw'; go_simp; (try with_reducible rfl)
  simp only [Act.put, List.setIfInBounds_toArray, List.set_cons_zero, List.set_cons_succ]
  apply wpR_next 5 (some 14)
  · simp only [List.getElem?_toArray, List.getElem?_cons_succ, List.getElem?_cons_zero]; exact rfl
  · rfl
  · kernel_rfl
  · kernel_rfl
  · kernel_rfl
  · exact fun _ _ _ _ h => h
  apply Exists.intro
  apply And.intro
  · apply yr_run; rfl; intro w' hw'; go_simp; (try with_reducible rfl)
  simp only [Act.put, List.setIfInBounds_toArray, List.set_cons_zero, List.set_cons_succ]
  apply wpR_next 6 (some 15)
  · simp only [List.getElem?_toArray, List.getElem?_cons_succ, List.getElem?_cons_zero]; exact rfl
  · rfl
  · kernel_rfl
  · kernel_rfl
  · kernel_rfl
  · exact fun _ _ _ _ h => h
  apply Exists.intro
  apply And.intro
  · apply yr_run; rfl; intro w' hw'; go_simp; (try with_reducible rfl)
  simp only [Act.put, List.setIfInBounds_toArray, List.set_cons_zero, List.set_cons_succ]
  apply wpR_next 7 (some 16)
  · simp only [List.getElem?_toArray, List.getElem?_cons_succ, List.getElem?_cons_zero]; exact rfl
  · rfl
  · kernel_rfl
  · kernel_rfl
  · kernel_rfl
  · exact fun _ _ _ _ h => h
  apply Exists.intro
  apply And.intro
  · apply yr_run; rfl; intro w' hw'; go_simp; (try with_reducible rfl)
  simp only [Act.put, List.setIfInBounds_toArray, List.set_cons_zero, List.set_cons_succ]
  apply wpR_next 8 (some 17)
  · simp only [List.getElem?_toArray, List.getElem?_cons_succ, List.getElem?_cons_zero]; exact rfl
  · rfl
  · kernel_rfl
  · kernel_rfl
  · kernel_rfl
  · exact fun _ _ _ _ h => h
  apply Exists.intro
  apply And.intro
  · apply yr_run; rfl; intro w' hw'; go_simp; (try with_reducible rfl)
  simp only [Act.put, List.setIfInBounds_toArray, List.set_cons_zero, List.set_cons_succ]
  apply wpR_next 9 (some 18)
  · simp only [List.getElem?_toArray, List.getElem?_cons_succ, List.getElem?_cons_zero]; exact rfl
  · rfl
  · kernel_rfl
  · kernel_rfl
  · kernel_rfl
  · exact fun _ _ _ _ h => h
  apply Exists.intro
  apply And.intro
  · exact yr_run (by rfl) (fun w' h => exec_slice_high 22 5 (.tmp 16) (.tmp 17) rfl Try.underlying22 (s := 1) (by kernel_rfl) rfl rfl hEc)
  simp only [Act.put, List.setIfInBounds_toArray, List.set_cons_zero, List.set_cons_succ]
  apply wpR_next 11 (some 20)
  · simp only [List.getElem?_toArray, List.getElem?_cons_succ, List.getElem?_cons_zero]; exact rfl
  · rfl
  · kernel_rfl
  · kernel_rfl
  · kernel_rfl
  · exact fun _ _ _ _ h => h
  apply Exists.intro
  apply And.intro
  · apply yr_run; rfl; intro w' hw'; go_simp; (try with_reducible rfl)
  simp only [Act.put, List.setIfInBounds_toArray, List.set_cons_zero, List.set_cons_succ]
  apply wpR_next 12 (some 21)
  · simp only [List.getElem?_toArray, List.getElem?_cons_succ, List.getElem?_cons_zero]; exact rfl
  · rfl
  · kernel_rfl
  · kernel_rfl
  · kernel_rfl
  · exact fun _ _ _ _ h => h
  apply Exists.intro
  apply And.intro
  · apply yr_run; rfl; intro w' hw'; go_simp; (try with_reducible rfl)
  simp only [Act.put, List.setIfInBounds_toArray, List.set_cons_zero, List.set_cons_succ]
  apply wpR_next 13 (some 22)
  · simp only [List.getElem?_toArray, List.getElem?_cons_succ, List.getElem?_cons_zero]; exact rfl
  · rfl
  · kernel_rfl
  · kernel_rfl
  · kernel_rfl
  · exact fun _ _ _ _ h => h
  apply Exists.intro
  apply And.intro
  · exact yr_run (by rfl) (fun w' h => exec_slice_low_as 22 5 (.tmp 20) (.tmp 21) rfl Try.underlying22 (s := 1) (by kernel_rfl) rfl rfl hEn HA2.out Hn2.out Hc2.out)
  simp only [Act.put, List.setIfInBounds_toArray, List.set_cons_zero, List.set_cons_succ]
  apply wpR_call 10 (some 19)
  · simp only [List.getElem?_toArray, List.getElem?_cons_succ, List.getElem?_cons_zero]; exact rfl
  · rfl
  · kernel_rfl
  · rfl
  · intro w'; go_simp; first | done | exact ⟨rfl, rfl⟩ | with_reducible rfl
  intro w' hw'
  refine (sumbytes_any (some ⟨bb, off, none⟩) E c K w' (HK1.out.dr.bl hw') HbK.out (by unfold maxLen; omega)).mono ?_
  rintro e w'' ⟨g, rfl, hg, hwh, hbl⟩
  have hd2 := (HD1.out.dr.bl hw').bl hbl
  have HQ : RowKit.Hid (∀ w1, Kept Nil_ w'' w1 → Calls Try.prog 25 #[.slice (some ⟨g, 0, none⟩) 4 4, .slice A2 n2 c2] w1 fun e w3 => e = .returned (.bool true) ∧ Below w1.heap.size w1 w3) := Lib.hid (fun w1 hk => have hB : Below w''.heap.size w'' w1 := hk.below (Nat.le_refl _) (fun _ _ h => h); equal_b _ A2 4 4 n2 c2 _ D w1 ((RdS.of_whole hwh rfl).bl hB) (hd2.bl hB) HEq.out)
  refine ⟨_, rfl, Kept.of_below hbl, ?_⟩
  have HX : RowKit.Hid (Ext W1.drew w'') := Lib.hid (Ext.trans hw' hbl)
  obtain ⟨V2, gV2⟩ : ∃ x, w'' = x := ⟨_, rfl⟩
  rw [gV2] at HX HQ ⊢
  clear hw' hbl hwh hg hd2 gV2
  simp only [Act.put, List.setIfInBounds_toArray, List.set_cons_zero, List.set_cons_succ]
  apply wpR_next 14 (some 23)
  · simp only [List.getElem?_toArray, List.getElem?_cons_succ, List.getElem?_cons_zero]; exact rfl
  · rfl
  · kernel_rfl
  · kernel_rfl
  · kernel_rfl
  · exact fun _ _ _ _ h => h
  apply Exists.intro
  apply And.intro
  · apply yr_call; rfl; rotate_left; intro w' hw'; exact HQ.out w' hw'; intro w'; go_simp
  simp only [Act.put, List.setIfInBounds_toArray, List.set_cons_zero, List.set_cons_succ]
  apply wpR_next 15 (some 24)
  · simp only [List.getElem?_toArray, List.getElem?_cons_succ, List.getElem?_cons_zero]; exact rfl
  · rfl
  · kernel_rfl
  · kernel_rfl
  · kernel_rfl
  · exact fun _ _ _ _ h => h
  apply Exists.intro
  apply And.intro
  · apply yr_run; rfl; intro w' hw'; go_simp; (try with_reducible rfl)
  simp only [Act.put, List.setIfInBounds_toArray, List.set_cons_zero, List.set_cons_succ]
  apply wpR_next 16 (some 25)
  · simp only [List.getElem?_toArray, List.getElem?_cons_succ, List.getElem?_cons_zero]; exact rfl
  · rfl
  · kernel_rfl
  · kernel_rfl
  · kernel_rfl
  · exact fun _ _ _ _ h => h
  apply Exists.intro
  apply And.intro
  · apply yr_run; rfl; intro w' hw'; go_simp; (try with_reducible rfl)
  simp only [Act.put, List.setIfInBounds_toArray, List.set_cons_zero, List.set_cons_succ]
  refine wpR_done (by kernel_rfl) ?_ _
  intro W2 hw2
  have HX2 : RowKit.Hid (Ext W1 W2) := Lib.hid (Ext.trans ((Below.refl _ _).drew) (Ext.trans HX.out hw2))
  clear hw2 HX HQ HK1 HD1 HK0 HD0
  have HO2 := Lib.hid (HO0.out.below HX2.out)
  have HB2 : RowKit.Hid (Below w.heap.size w W2) := Lib.hid (bel_bl HB0.out HX2.out)
  have HG1 : RowKit.Hid (g0 < W2.heap.size) := Lib.hid HO2.out.lt
  clear HO0 HB0 HX2
  have HBX2 := Lib.hid (HBX.out.up HB2.out HB2.out.size)
  have HR2 := Lib.hid (HR0.out.up HB2.out HB2.out.size)
  have HbW : RowKit.Hid (bb < W2.heap.size) := Lib.hid (Nat.lt_of_lt_of_le HbB.out HB2.out.size)
  clear HBX HR0
  go_upto_region 4 with fail
  obtain ⟨B0, hB0⟩ : ∃ x, W2.heap.size = x := ⟨_, rfl⟩
  have HB0 := Lib.hid hB0
  have EX9 : RowKit.Hid (Ext W2 W2.drew) := Lib.hid ((Below.refl _ _).drew)
  clear hB0
  have lC0 : ∀ w', Kept (From_ B0) W2.drew w' → w'.cell? ⟨bb, off, none⟩ = some (.int .u8 (a0 : Int)) := fun w' h => h.from_cell (by have h1 := HbW.out; have h2 := HB0.out; show bb < B0; omega) (by have := HR2.out.cell _ rfl 0 _ e0; simpa [Addr.add] using this)
  have lC1 : ∀ w', Kept (From_ B0) W2.drew w' → w'.cell? ⟨bb, off + 1, none⟩ = some (.int .u8 (a1 : Int)) := fun w' h => h.from_cell (by have h1 := HbW.out; have h2 := HB0.out; show bb < B0; omega) (by have := HR2.out.cell _ rfl 1 _ e1; simpa [Addr.add] using this)
  have lC2 : ∀ w', Kept (From_ B0) W2.drew w' → w'.cell? ⟨bb, off + 2, none⟩ = some (.int .u8 (a2 : Int)) := fun w' h => h.from_cell (by have h1 := HbW.out; have h2 := HB0.out; show bb < B0; omega) (by have := HR2.out.cell _ rfl 2 _ e2; simpa [Addr.add] using this)
  refine wp_behind2 (fun a a' w' => ∃ (Ac : Option Addr) (cc g5 : Nat) (u27 u28 u29 u30 u31 u32 u33 u34 u35 u36 u37 u38 u39 u40 u41 u42 u43 : Value), a' = ((((((((((((((((((a.put (some 27) u27).put (some 28) u28).put (some 29) u29).put (some 30) u30).put (some 31) u31).put (some 32) u32).put (some 33) u33).put (some 34) u34).put (some 35) u35).put (some 36) u36).put (some 37) u37).put (some 38) u38).put (some 39) u39).put (some 40) u40).put (some 41) u41).put (some 42) u42).put (some 43) u43).put (some 5) (.pointer (some ⟨g5, 0, none⟩))) ∧ RowKit.Hid (Ext W2 w' ∧ W2.heap.size ≤ g5 ∧ Whole w' g5 24 [.int .i64 (a0 : Int), .int .i64 (a1 : Int), .int .i64 (a2 : Int), .int .i64 0, .int .i64 0, .int .i64 0, .slice Ac Bd.length cc] ∧ RdS w' w'.heap.size 1 Ac Bd.length cc (rowsV f8 Bd) ∧ (∀ a, Ac = some a → 0 < Bd.length → W2.heap.size ≤ a.block) ∧ (∀ a, Ac = some a → 0 < Bd.length → some a.block ≠ some g5))) ?_ ?_
  · refine wp_region_reg (From_ B0) (by kernel_rfl) ?_
    apply wpR_next 0 (some 27)
    · simp only [List.getElem?_toArray, List.getElem?_cons_succ, List.getElem?_cons_zero]; exact rfl
    · rfl
    · kernel_rfl
    · kernel_rfl
    · kernel_rfl
    · first | exact fun _ _ _ _ h => Exit.noConfusion h.1 | exact fun _ _ _ _ h => h
    apply Exists.intro
    apply And.intro
    · apply yr_run; rfl; intro w' hw'; go_simp; (try with_reducible rfl)
    simp only [Act.put, List.setIfInBounds_toArray, List.set_cons_zero, List.set_cons_succ]
    apply wpR_next 1 (some 28)
    · simp only [List.getElem?_toArray, List.getElem?_cons_succ, List.getElem?_cons_zero]; exact rfl
    · rfl
    · kernel_rfl
    · kernel_rfl
    · kernel_rfl
    · first | exact fun _ _ _ _ h => Exit.noConfusion h.1 | exact fun _ _ _ _ h => h
    apply Exists.intro
    apply And.intro
    · apply yr_run; rfl; intro w' hw'; go_simp; (try with_reducible rfl)
    simp only [Act.put, List.setIfInBounds_toArray, List.set_cons_zero, List.set_cons_succ]
    apply wpR_next 2 (some 29)
    · simp only [List.getElem?_toArray, List.getElem?_cons_succ, List.getElem?_cons_zero]; exact rfl
    · rfl
    · kernel_rfl
    · kernel_rfl
    · kernel_rfl
    · first | exact fun _ _ _ _ h => Exit.noConfusion h.1 | exact fun _ _ _ _ h => h
    apply Exists.intro
    apply And.intro
    · apply yr_run; rfl; intro w' hw'; go_simp; (try with_reducible rfl)
    simp only [Act.put, List.setIfInBounds_toArray, List.set_cons_zero, List.set_cons_succ]
    apply wpR_next 3 (some 30)
    · simp only [List.getElem?_toArray, List.getElem?_cons_succ, List.getElem?_cons_zero]; exact rfl
    · rfl
    · kernel_rfl
    · kernel_rfl
    · kernel_rfl
    · first | exact fun _ _ _ _ h => Exit.noConfusion h.1 | exact fun _ _ _ _ h => h
    apply Exists.intro
    apply And.intro
    · apply yr_run; rfl; intro w' hw'; go_simp; (try with_reducible rfl)
    simp only [Act.put, List.setIfInBounds_toArray, List.set_cons_zero, List.set_cons_succ]
    apply wpR_next 4 (some 31)
    · simp only [List.getElem?_toArray, List.getElem?_cons_succ, List.getElem?_cons_zero]; exact rfl
    · rfl
    · kernel_rfl
    · kernel_rfl
    · kernel_rfl
    · first | exact fun _ _ _ _ h => Exit.noConfusion h.1 | exact fun _ _ _ _ h => h
    apply Exists.intro
    apply And.intro
    · apply yr_run; rfl; intro w' hw'; go_simp; (try with_reducible rfl)
    simp only [Act.put, List.setIfInBounds_toArray, List.set_cons_zero, List.set_cons_succ]
    apply wpR_next 5 (some 32)
    · simp only [List.getElem?_toArray, List.getElem?_cons_succ, List.getElem?_cons_zero]; exact rfl
    · rfl
    · kernel_rfl
    · kernel_rfl
    · kernel_rfl
    · first | exact fun _ _ _ _ h => Exit.noConfusion h.1 | exact fun _ _ _ _ h => h
    apply Exists.intro
    apply And.intro
    · apply yr_run; rfl; intro w' hw'; go_simp; (try with_reducible rfl)
    simp only [Act.put, List.setIfInBounds_toArray, List.set_cons_zero, List.set_cons_succ]
    apply wpR_next 6 (some 33)
    · simp only [List.getElem?_toArray, List.getElem?_cons_succ, List.getElem?_cons_zero]; exact rfl
    · rfl
    · kernel_rfl
    · kernel_rfl
    · kernel_rfl
    · first | exact fun _ _ _ _ h => Exit.noConfusion h.1 | exact fun _ _ _ _ h => h
    apply Exists.intro
    apply And.intro
    · apply yr_run; rfl; intro w' hw'; go_simp; (try with_reducible rfl)
    simp only [Act.put, List.setIfInBounds_toArray, List.set_cons_zero, List.set_cons_succ]
    apply wpR_next 7 (some 34)
    · simp only [List.getElem?_toArray, List.getElem?_cons_succ, List.getElem?_cons_zero]; exact rfl
    · rfl
    · kernel_rfl
    · kernel_rfl
    · kernel_rfl
    · first | exact fun _ _ _ _ h => Exit.noConfusion h.1 | exact fun _ _ _ _ h => h
    apply Exists.intro
    apply And.intro
    · apply yr_run; rfl; intro w' hw'; go_simp; (try with_reducible rfl)
    simp only [Act.put, List.setIfInBounds_toArray, List.set_cons_zero, List.set_cons_succ]
    apply wpR_next 8 (some 35)
    · simp only [List.getElem?_toArray, List.getElem?_cons_succ, List.getElem?_cons_zero]; exact rfl
    · rfl
    · kernel_rfl
    · kernel_rfl
    · kernel_rfl
    · first | exact fun _ _ _ _ h => Exit.noConfusion h.1 | exact fun _ _ _ _ h => h
    apply Exists.intro
    apply And.intro
    · apply yr_run; rfl; intro w' hw'; go_simp; (try with_reducible rfl)
    simp only [Act.put, List.setIfInBounds_toArray, List.set_cons_zero, List.set_cons_succ]
    apply wpR_next 9 (some 36)
    · simp only [List.getElem?_toArray, List.getElem?_cons_succ, List.getElem?_cons_zero]; exact rfl
    · rfl
    · kernel_rfl
    · kernel_rfl
    · kernel_rfl
    · first | exact fun _ _ _ _ h => Exit.noConfusion h.1 | exact fun _ _ _ _ h => h
    apply Exists.intro
    apply And.intro
    · apply yr_run; rfl; intro w' hw'; go_simp; (try with_reducible rfl)
    simp only [Act.put, List.setIfInBounds_toArray, List.set_cons_zero, List.set_cons_succ]
    apply wpR_next 10 (some 37)
    · simp only [List.getElem?_toArray, List.getElem?_cons_succ, List.getElem?_cons_zero]; exact rfl
    · rfl
    · kernel_rfl
    · kernel_rfl
    · kernel_rfl
    · first | exact fun _ _ _ _ h => Exit.noConfusion h.1 | exact fun _ _ _ _ h => h
    apply Exists.intro
    apply And.intro
    · apply yr_run; rfl; intro w' hw'; go_simp; (try with_reducible rfl)
    simp only [Act.put, List.setIfInBounds_toArray, List.set_cons_zero, List.set_cons_succ]
    apply wpR_next 11 (some 38)
    · simp only [List.getElem?_toArray, List.getElem?_cons_succ, List.getElem?_cons_zero]; exact rfl
    · rfl
    · kernel_rfl
    · kernel_rfl
    · kernel_rfl
    · first | exact fun _ _ _ _ h => Exit.noConfusion h.1 | exact fun _ _ _ _ h => h
    apply Exists.intro
    apply And.intro
    · apply yr_run; rfl; intro w' hw'; go_simp; (try with_reducible rfl)
    simp only [Act.put, List.setIfInBounds_toArray, List.set_cons_zero, List.set_cons_succ]
    apply wpR_next 12 (some 39)
    · simp only [List.getElem?_toArray, List.getElem?_cons_succ, List.getElem?_cons_zero]; exact rfl
    · rfl
    · kernel_rfl
    · kernel_rfl
    · kernel_rfl
    · first | exact fun _ _ _ _ h => Exit.noConfusion h.1 | exact fun _ _ _ _ h => h
    apply Exists.intro
    apply And.intro
    · apply yr_run; rfl; intro w' hw'; go_simp; (try with_reducible rfl)
    simp only [Act.put, List.setIfInBounds_toArray, List.set_cons_zero, List.set_cons_succ]
    apply wpR_next 13 (some 40)
    · simp only [List.getElem?_toArray, List.getElem?_cons_succ, List.getElem?_cons_zero]; exact rfl
    · rfl
    · kernel_rfl
    · kernel_rfl
    · kernel_rfl
    · first | exact fun _ _ _ _ h => Exit.noConfusion h.1 | exact fun _ _ _ _ h => h
    apply Exists.intro
    apply And.intro
    · apply yr_run; rfl; intro w' hw'; go_simp; (try with_reducible rfl)
    simp only [Act.put, List.setIfInBounds_toArray, List.set_cons_zero, List.set_cons_succ]
    apply wpR_next 14 (some 41)
    · simp only [List.getElem?_toArray, List.getElem?_cons_succ, List.getElem?_cons_zero]; exact rfl
    · rfl
    · kernel_rfl
    · kernel_rfl
    · kernel_rfl
    · first | exact fun _ _ _ _ h => Exit.noConfusion h.1 | exact fun _ _ _ _ h => h
    apply Exists.intro
    apply And.intro
    · exact yr_run (by rfl) (fun w' h => exec_slice_as 22 5 (.tmp 39) (.const (.int .i64 15)) (.tmp 40) rfl Try.underlying22 (s := 1) (by kernel_rfl) rfl rfl rfl hE1 hEc HaB.out HBl.out HcB.out)
    simp only [Act.put, List.setIfInBounds_toArray, List.set_cons_zero, List.set_cons_succ]
    refine wpR_two 15 17 (by kernel_rfl) ?_ ?_
    · apply at_call 15 (some 42)
      · simp only [List.getElem?_toArray, List.getElem?_cons_succ, List.getElem?_cons_zero]; exact rfl
      · rfl
      · rfl
      · intro w'; go_simp; first | done | exact ⟨rfl, rfl⟩ | with_reducible rfl
      intro w' hw'
      have E_1_2 := Lib.hid (Ext.trans EX9.out (hw'))
      refine (clone_any _ Bd.length cB Bd _ (HBX2.out.bl E_1_2.out) (by omega)).mono ?_
      rintro e w'' ⟨Ac, cc, rfl, hrc, hnc, hb⟩
      have HNC : RowKit.Hid (∀ a, Ac = some a → 0 < Bd.length → W2.heap.size ≤ a.block) := Lib.hid (fun a ha hn => Nat.le_trans E_1_2.out.size (hnc a ha hn))
      have E_1_3 := Lib.hid (Ext.trans E_1_2.out (hb))
      have UB_1_1 := Lib.hid hrc
      clear hrc hnc
      have hkk : Kept (From_ B0) W2.drew w'' := (Kept.of_ext hw').trans (Kept.of_below hb)
      refine ⟨_, rfl, Kept.of_below hb, ?_⟩
      obtain ⟨z1_1, gz1_1⟩ : ∃ x, w'' = x := ⟨_, rfl⟩
      rw [gz1_1] at UB_1_1 E_1_3 hkk ⊢
      have ldt1_4 := fun w'' (h : Kept (From_ B0) z1_1 w'') => lC0 w'' (hkk.trans h)
      have ldt1_5 := fun w'' (h : Kept (From_ B0) z1_1 w'') => lC1 w'' (hkk.trans h)
      have ldt1_6 := fun w'' (h : Kept (From_ B0) z1_1 w'') => lC2 w'' (hkk.trans h)
      clear lC0 lC1 lC2
      clear hkk hb gz1_1 hw'
      try simp only [Act.put, List.setIfInBounds_toArray, List.set_cons_zero, List.set_cons_succ]
      apply wpR_next 16 (some 43)
      · simp only [List.getElem?_toArray, List.getElem?_cons_succ, List.getElem?_cons_zero]; exact rfl
      · rfl
      · kernel_rfl
      · kernel_rfl
      · kernel_rfl
      · first | exact fun _ _ _ _ h => Exit.noConfusion h.1 | exact fun _ _ _ _ h => h
      apply Exists.intro
      apply And.intro
      · apply yr_run; rfl; intro w' hw'; go_simp; (try with_reducible rfl)
      simp only [Act.put, List.setIfInBounds_toArray, List.set_cons_zero, List.set_cons_succ]
      refine wpR_one 17 (by kernel_rfl) ?_
      apply at_run 17 (some 5)
      · simp only [List.getElem?_toArray, List.getElem?_cons_succ, List.getElem?_cons_zero]; exact rfl
      · rfl
      · rfl
      intro w' hw'
      have UB_1_8 := Lib.hid (RdS.bl UB_1_1.out (hw'))
      have E_1_8 := Lib.hid (Ext.trans E_1_3.out (hw'))
      refine ⟨.pointer (some ⟨w'.heap.size, 0, none⟩), w'.alloc (.cells #[.int .i64 0, .int .i64 0, .int .i64 0, .int .i64 0, .int .i64 0, .int .i64 0, .slice none 0 0] 24), ?_, Kept.of_below (below1 _ _), ?_⟩
      · go_simp
      have NV_V_B_1_7 : RowKit.Hid (∀ a, Ac = some a → 0 < Bd.length → some a.block ≠ some w'.heap.size) := Lib.hid (fun a ha hn e => by have h1 := Option.some.inj e; have h2 := UB_1_8.out.low a ha hn; omega)
      have LOv1_7 : RowKit.Hid (W2.heap.size ≤ w'.heap.size) := Lib.hid E_1_8.out.size
      have UB_1_9 := Lib.hid (RdS.bl UB_1_8.out (below1 w' (.cells #[.int .i64 0, .int .i64 0, .int .i64 0, .int .i64 0, .int .i64 0, .int .i64 0, .slice none 0 0] 24)))
      have E_1_9 := Lib.hid (Ext.trans E_1_8.out (below1 w' (.cells #[.int .i64 0, .int .i64 0, .int .i64 0, .int .i64 0, .int .i64 0, .int .i64 0, .slice none 0 0] 24)))
      have XV_n1_7 : RowKit.Hid (Whole (w'.alloc (.cells #[.int .i64 0, .int .i64 0, .int .i64 0, .int .i64 0, .int .i64 0, .int .i64 0, .slice none 0 0] 24)) w'.heap.size 24 [.int .i64 0, .int .i64 0, .int .i64 0, .int .i64 0, .int .i64 0, .int .i64 0, .slice none 0 0]) := Lib.hid (Whole.new_ _ _ [.int .i64 0, .int .i64 0, .int .i64 0, .int .i64 0, .int .i64 0, .int .i64 0, .slice none 0 0])
      have hkk : Kept (From_ B0) z1_1 (w'.alloc (.cells #[.int .i64 0, .int .i64 0, .int .i64 0, .int .i64 0, .int .i64 0, .int .i64 0, .slice none 0 0] 24)) := (Kept.of_ext hw').trans (Kept.of_below (below1 _ _))
      obtain ⟨v1_10, gv1_10⟩ : ∃ x, w'.alloc (.cells #[.int .i64 0, .int .i64 0, .int .i64 0, .int .i64 0, .int .i64 0, .int .i64 0, .slice none 0 0] 24) = x := ⟨_, rfl⟩
      rw [gv1_10] at XV_n1_7 UB_1_9 E_1_9 hkk ⊢
      have ldt1_11 := fun w'' (h : Kept (From_ B0) v1_10 w'') => ldt1_4 w'' (hkk.trans h)
      have ldt1_12 := fun w'' (h : Kept (From_ B0) v1_10 w'') => ldt1_5 w'' (hkk.trans h)
      have ldt1_13 := fun w'' (h : Kept (From_ B0) v1_10 w'') => ldt1_6 w'' (hkk.trans h)
      clear ldt1_4 ldt1_5 ldt1_6
      clear gv1_10 hkk
      obtain ⟨g1_7, gg1_7⟩ : ∃ x, w'.heap.size = x := ⟨_, rfl⟩
      rw [gg1_7] at XV_n1_7 LOv1_7 NV_V_B_1_7 ⊢
      clear gg1_7 hw'
      try simp only [Act.put, List.setIfInBounds_toArray, List.set_cons_zero, List.set_cons_succ]
      refine wpR_one 18 (by kernel_rfl) ?_
      apply at_store 18
      · simp only [List.getElem?_toArray, List.getElem?_cons_succ, List.getElem?_cons_zero]; exact rfl
      · rfl
      · rfl
      intro w' hw'
      have XV_1_15 := Lib.hid (Whole.below XV_n1_7.out (hw'))
      have UB_1_15 := Lib.hid (RdS.bl UB_1_9.out (hw'))
      have E_1_15 := Lib.hid (Ext.trans E_1_9.out (hw'))
      refine ⟨w'.setRow g1_7 #[.int .i64 (a0 : Int), .int .i64 (a1 : Int), .int .i64 (a2 : Int), .int .i64 0, .int .i64 0, .int .i64 0, .slice Ac Bd.length cc], store_row_run 24 (.tmp 5) (.tmp 43) rfl g1_7 rfl [.int .i64 (a0 : Int), .int .i64 (a1 : Int), .int .i64 (a2 : Int), .int .i64 0, .int .i64 0, .int .i64 0, .slice Ac Bd.length cc] rfl 24 [.int .i64 0, .int .i64 0, .int .i64 0, .int .i64 0, .int .i64 0, .int .i64 0, .slice none 0 0] XV_1_15.out (by kernel_rfl) rfl (by simp [Value.oneCell']), kept_row (show B0 ≤ g1_7 by have h1 := LOv1_7.out; have h2 := HB0.out; omega) _, ?_⟩
      have UB_r1_14 := Lib.hid (RdS.row_far UB_1_15.out NV_V_B_1_7.out #[.int .i64 (a0 : Int), .int .i64 (a1 : Int), .int .i64 (a2 : Int), .int .i64 0, .int .i64 0, .int .i64 0, .slice Ac Bd.length cc])
      have E_r1_14 := Lib.hid (below_row E_1_15.out LOv1_7.out #[.int .i64 (a0 : Int), .int .i64 (a1 : Int), .int .i64 (a2 : Int), .int .i64 0, .int .i64 0, .int .i64 0, .slice Ac Bd.length cc])
      have XV_r1_14 : RowKit.Hid (Whole (w'.setRow g1_7 #[.int .i64 (a0 : Int), .int .i64 (a1 : Int), .int .i64 (a2 : Int), .int .i64 0, .int .i64 0, .int .i64 0, .slice Ac Bd.length cc]) g1_7 24 [.int .i64 (a0 : Int), .int .i64 (a1 : Int), .int .i64 (a2 : Int), .int .i64 0, .int .i64 0, .int .i64 0, .slice Ac Bd.length cc]) := Lib.hid (Whole.row XV_1_15.out [.int .i64 (a0 : Int), .int .i64 (a1 : Int), .int .i64 (a2 : Int), .int .i64 0, .int .i64 0, .int .i64 0, .slice Ac Bd.length cc])
      have hkk : Kept (From_ B0) v1_10 (w'.setRow g1_7 #[.int .i64 (a0 : Int), .int .i64 (a1 : Int), .int .i64 (a2 : Int), .int .i64 0, .int .i64 0, .int .i64 0, .slice Ac Bd.length cc]) := (Kept.of_ext hw').trans (kept_row (show B0 ≤ g1_7 by have h1 := LOv1_7.out; have h2 := HB0.out; omega) _)
      obtain ⟨v1_16, gv1_16⟩ : ∃ x, w'.setRow g1_7 #[.int .i64 (a0 : Int), .int .i64 (a1 : Int), .int .i64 (a2 : Int), .int .i64 0, .int .i64 0, .int .i64 0, .slice Ac Bd.length cc] = x := ⟨_, rfl⟩
      rw [gv1_16] at XV_r1_14 UB_r1_14 E_r1_14 hkk ⊢
      have ldt1_17 := fun w'' (h : Kept (From_ B0) v1_16 w'') => ldt1_11 w'' (hkk.trans h)
      have ldt1_18 := fun w'' (h : Kept (From_ B0) v1_16 w'') => ldt1_12 w'' (hkk.trans h)
      have ldt1_19 := fun w'' (h : Kept (From_ B0) v1_16 w'') => ldt1_13 w'' (hkk.trans h)
      clear ldt1_11 ldt1_12 ldt1_13
      clear gv1_16 hkk
      clear hw'
      try simp only [Act.put, List.setIfInBounds_toArray, List.set_cons_zero, List.set_cons_succ]
      refine wpR_done (by kernel_rfl) ?_ _
      intro wE hwE
      have hxx := Whole.below XV_r1_14.out hwE
      have hyy := RdS.bl UB_r1_14.out hwE
      refine ⟨rfl, Ac, cc, g1_7, _, _, _, _, _, _, _, _, _, _, _, _, _, _, _, _, _, rfl, Lib.hid ⟨?_, ?_, hxx, hyy, HNC.out, NV_V_B_1_7.out⟩⟩
      · exact Ext.trans E_r1_14.out hwE
      · exact LOv1_7.out
    · apply at_run 17 (some 5)
      · simp only [List.getElem?_toArray, List.getElem?_cons_succ, List.getElem?_cons_zero]; exact rfl
      · rfl
      · rfl
      intro w' hw'
      have E_2_21 := Lib.hid (Ext.trans EX9.out (hw'))
      refine ⟨.pointer (some ⟨w'.heap.size, 0, none⟩), w'.alloc (.cells #[.int .i64 0, .int .i64 0, .int .i64 0, .int .i64 0, .int .i64 0, .int .i64 0, .slice none 0 0] 24), ?_, Kept.of_below (below1 _ _), ?_⟩
      · go_simp
      have LOv2_20 : RowKit.Hid (W2.heap.size ≤ w'.heap.size) := Lib.hid E_2_21.out.size
      have E_2_22 := Lib.hid (Ext.trans E_2_21.out (below1 w' (.cells #[.int .i64 0, .int .i64 0, .int .i64 0, .int .i64 0, .int .i64 0, .int .i64 0, .slice none 0 0] 24)))
      have XV_n2_20 : RowKit.Hid (Whole (w'.alloc (.cells #[.int .i64 0, .int .i64 0, .int .i64 0, .int .i64 0, .int .i64 0, .int .i64 0, .slice none 0 0] 24)) w'.heap.size 24 [.int .i64 0, .int .i64 0, .int .i64 0, .int .i64 0, .int .i64 0, .int .i64 0, .slice none 0 0]) := Lib.hid (Whole.new_ _ _ [.int .i64 0, .int .i64 0, .int .i64 0, .int .i64 0, .int .i64 0, .int .i64 0, .slice none 0 0])
      have hkk : Kept (From_ B0) W2.drew (w'.alloc (.cells #[.int .i64 0, .int .i64 0, .int .i64 0, .int .i64 0, .int .i64 0, .int .i64 0, .slice none 0 0] 24)) := (Kept.of_ext hw').trans (Kept.of_below (below1 _ _))
      obtain ⟨v2_23, gv2_23⟩ : ∃ x, w'.alloc (.cells #[.int .i64 0, .int .i64 0, .int .i64 0, .int .i64 0, .int .i64 0, .int .i64 0, .slice none 0 0] 24) = x := ⟨_, rfl⟩
      rw [gv2_23] at XV_n2_20 E_2_22 hkk ⊢
      have ldt2_24 := fun w'' (h : Kept (From_ B0) v2_23 w'') => lC0 w'' (hkk.trans h)
      have ldt2_25 := fun w'' (h : Kept (From_ B0) v2_23 w'') => lC1 w'' (hkk.trans h)
      have ldt2_26 := fun w'' (h : Kept (From_ B0) v2_23 w'') => lC2 w'' (hkk.trans h)
      clear lC0 lC1 lC2
      clear gv2_23 hkk
      obtain ⟨g2_20, gg2_20⟩ : ∃ x, w'.heap.size = x := ⟨_, rfl⟩
      rw [gg2_20] at XV_n2_20 LOv2_20  ⊢
      clear gg2_20 hw'
      try simp only [Act.put, List.setIfInBounds_toArray, List.set_cons_zero, List.set_cons_succ]
      refine wpR_one 15 (by kernel_rfl) ?_
      apply at_call 15 (some 42)
      · simp only [List.getElem?_toArray, List.getElem?_cons_succ, List.getElem?_cons_zero]; exact rfl
      · rfl
      · rfl
      · intro w'; go_simp; first | done | exact ⟨rfl, rfl⟩ | with_reducible rfl
      intro w' hw'
      have XV_2_28 := Lib.hid (Whole.below XV_n2_20.out (hw'))
      have E_2_28 := Lib.hid (Ext.trans E_2_22.out (hw'))
      refine (clone_any _ Bd.length cB Bd _ (HBX2.out.bl E_2_28.out) (by omega)).mono ?_
      rintro e w'' ⟨Ac, cc, rfl, hrc, hnc, hb⟩
      have HNC : RowKit.Hid (∀ a, Ac = some a → 0 < Bd.length → W2.heap.size ≤ a.block) := Lib.hid (fun a ha hn => Nat.le_trans E_2_28.out.size (hnc a ha hn))
      have NV_V_B_2_27 : RowKit.Hid (∀ a, Ac = some a → 0 < Bd.length → some a.block ≠ some g2_20) := Lib.hid (fun a ha hn e => by have h1 := Option.some.inj e; have h2 := hnc a ha hn; have h3 := XV_2_28.out.lt; omega)
      have XV_2_29 := Lib.hid (Whole.below XV_2_28.out (hb))
      have E_2_29 := Lib.hid (Ext.trans E_2_28.out (hb))
      have UB_2_27 := Lib.hid hrc
      clear hrc hnc
      have hkk : Kept (From_ B0) v2_23 w'' := (Kept.of_ext hw').trans (Kept.of_below hb)
      refine ⟨_, rfl, Kept.of_below hb, ?_⟩
      obtain ⟨z2_27, gz2_27⟩ : ∃ x, w'' = x := ⟨_, rfl⟩
      rw [gz2_27] at XV_2_29 UB_2_27 E_2_29 hkk ⊢
      have ldt2_30 := fun w'' (h : Kept (From_ B0) z2_27 w'') => ldt2_24 w'' (hkk.trans h)
      have ldt2_31 := fun w'' (h : Kept (From_ B0) z2_27 w'') => ldt2_25 w'' (hkk.trans h)
      have ldt2_32 := fun w'' (h : Kept (From_ B0) z2_27 w'') => ldt2_26 w'' (hkk.trans h)
      clear ldt2_24 ldt2_25 ldt2_26
      clear hkk hb gz2_27 hw'
      try simp only [Act.put, List.setIfInBounds_toArray, List.set_cons_zero, List.set_cons_succ]
      apply wpR_next 16 (some 43)
      · simp only [List.getElem?_toArray, List.getElem?_cons_succ, List.getElem?_cons_zero]; exact rfl
      · rfl
      · kernel_rfl
      · kernel_rfl
      · kernel_rfl
      · first | exact fun _ _ _ _ h => Exit.noConfusion h.1 | exact fun _ _ _ _ h => h
      apply Exists.intro
      apply And.intro
      · apply yr_run; rfl; intro w' hw'; go_simp; (try with_reducible rfl)
      simp only [Act.put, List.setIfInBounds_toArray, List.set_cons_zero, List.set_cons_succ]
      refine wpR_one 18 (by kernel_rfl) ?_
      apply at_store 18
      · simp only [List.getElem?_toArray, List.getElem?_cons_succ, List.getElem?_cons_zero]; exact rfl
      · rfl
      · rfl
      intro w' hw'
      have XV_2_34 := Lib.hid (Whole.below XV_2_29.out (hw'))
      have UB_2_34 := Lib.hid (RdS.bl UB_2_27.out (hw'))
      have E_2_34 := Lib.hid (Ext.trans E_2_29.out (hw'))
      refine ⟨w'.setRow g2_20 #[.int .i64 (a0 : Int), .int .i64 (a1 : Int), .int .i64 (a2 : Int), .int .i64 0, .int .i64 0, .int .i64 0, .slice Ac Bd.length cc], store_row_run 24 (.tmp 5) (.tmp 43) rfl g2_20 rfl [.int .i64 (a0 : Int), .int .i64 (a1 : Int), .int .i64 (a2 : Int), .int .i64 0, .int .i64 0, .int .i64 0, .slice Ac Bd.length cc] rfl 24 [.int .i64 0, .int .i64 0, .int .i64 0, .int .i64 0, .int .i64 0, .int .i64 0, .slice none 0 0] XV_2_34.out (by kernel_rfl) rfl (by simp [Value.oneCell']), kept_row (show B0 ≤ g2_20 by have h1 := LOv2_20.out; have h2 := HB0.out; omega) _, ?_⟩
      have UB_r2_33 := Lib.hid (RdS.row_far UB_2_34.out NV_V_B_2_27.out #[.int .i64 (a0 : Int), .int .i64 (a1 : Int), .int .i64 (a2 : Int), .int .i64 0, .int .i64 0, .int .i64 0, .slice Ac Bd.length cc])
      have E_r2_33 := Lib.hid (below_row E_2_34.out LOv2_20.out #[.int .i64 (a0 : Int), .int .i64 (a1 : Int), .int .i64 (a2 : Int), .int .i64 0, .int .i64 0, .int .i64 0, .slice Ac Bd.length cc])
      have XV_r2_33 : RowKit.Hid (Whole (w'.setRow g2_20 #[.int .i64 (a0 : Int), .int .i64 (a1 : Int), .int .i64 (a2 : Int), .int .i64 0, .int .i64 0, .int .i64 0, .slice Ac Bd.length cc]) g2_20 24 [.int .i64 (a0 : Int), .int .i64 (a1 : Int), .int .i64 (a2 : Int), .int .i64 0, .int .i64 0, .int .i64 0, .slice Ac Bd.length cc]) := Lib.hid (Whole.row XV_2_34.out [.int .i64 (a0 : Int), .int .i64 (a1 : Int), .int .i64 (a2 : Int), .int .i64 0, .int .i64 0, .int .i64 0, .slice Ac Bd.length cc])
      have hkk : Kept (From_ B0) z2_27 (w'.setRow g2_20 #[.int .i64 (a0 : Int), .int .i64 (a1 : Int), .int .i64 (a2 : Int), .int .i64 0, .int .i64 0, .int .i64 0, .slice Ac Bd.length cc]) := (Kept.of_ext hw').trans (kept_row (show B0 ≤ g2_20 by have h1 := LOv2_20.out; have h2 := HB0.out; omega) _)
      obtain ⟨v2_35, gv2_35⟩ : ∃ x, w'.setRow g2_20 #[.int .i64 (a0 : Int), .int .i64 (a1 : Int), .int .i64 (a2 : Int), .int .i64 0, .int .i64 0, .int .i64 0, .slice Ac Bd.length cc] = x := ⟨_, rfl⟩
      rw [gv2_35] at XV_r2_33 UB_r2_33 E_r2_33 hkk ⊢
      have ldt2_36 := fun w'' (h : Kept (From_ B0) v2_35 w'') => ldt2_30 w'' (hkk.trans h)
      have ldt2_37 := fun w'' (h : Kept (From_ B0) v2_35 w'') => ldt2_31 w'' (hkk.trans h)
      have ldt2_38 := fun w'' (h : Kept (From_ B0) v2_35 w'') => ldt2_32 w'' (hkk.trans h)
      clear ldt2_30 ldt2_31 ldt2_32
      clear gv2_35 hkk
      clear hw'
      try simp only [Act.put, List.setIfInBounds_toArray, List.set_cons_zero, List.set_cons_succ]
      refine wpR_done (by kernel_rfl) ?_ _
      intro wE hwE
      have hxx := Whole.below XV_r2_33.out hwE
      have hyy := RdS.bl UB_r2_33.out hwE
      refine ⟨rfl, Ac, cc, g2_20, _, _, _, _, _, _, _, _, _, _, _, _, _, _, _, _, _, rfl, Lib.hid ⟨?_, ?_, hxx, hyy, HNC.out, NV_V_B_2_27.out⟩⟩
      · exact Ext.trans E_r2_33.out hwE
      · exact LOv2_20.out
  intro a' w' h9
  obtain ⟨Ac, cc, g5, u27, u28, u29, u30, u31, u32, u33, u34, u35, u36, u37, u38, u39, u40, u41, u42, u43, rfl, hφ⟩ := h9
  simp only [Act.put, List.setIfInBounds_toArray, List.set_cons_zero, List.set_cons_succ]
  obtain ⟨W4, gW4⟩ : ∃ x, w' = x := ⟨_, rfl⟩
  rw [gW4] at hφ ⊢
  clear gW4
  have HF4 := Lib.hid hφ.out.2.2.1
  have HC4 := Lib.hid hφ.out.2.2.2.1
  have HNC := Lib.hid hφ.out.2.2.2.2.1
  have HNV := Lib.hid hφ.out.2.2.2.2.2
  have HG5 : RowKit.Hid (g0 ≠ g5 ∧ w.heap.size ≤ g5) := Lib.hid (by have h1 := hφ.out.2.1; have h2 := HG1.out; have h3 := HG0.out; omega)
  have HO4 := Lib.hid (HO2.out.below hφ.out.1)
  have HB4 : RowKit.Hid (Below w.heap.size w W4) := Lib.hid (bel_bl HB2.out hφ.out.1)
  have HNw2 : RowKit.Hid (∀ a, Ac = some a → 0 < Bd.length → g0 < a.block) := Lib.hid (fun a ha hn => Nat.lt_of_lt_of_le HG1.out (HNC.out a ha hn))
  have HNew : RowKit.Hid (∀ a, Ac = some a → 0 < Bd.length → w.heap.size ≤ a.block) := Lib.hid (fun a ha hn => Nat.le_trans HB2.out.size (HNC.out a ha hn))
  clear hφ HO2 HBX2 HR2 HNC lC0 lC1 lC2 HB2
  go_upto_region 5 with fail
  have HZ3 : RowKit.Hid (∀ w', Kept (fun i => i = g5) W4.drew w' → Calls Try.prog 27 #[.slice (some ⟨bb, off + 3, none⟩) (n - 3) (c - 3)] w' fun e w'' => e = .returned (.int .i64 (num4 a3 a4 a5 a6)) ∧ Below w'.heap.size w' w'') := Lib.hid (fun w' hk => HN3.out w' (RdS.kept_ (HY3.out.below HB4.out.drew) hk HB4.out.size (fun i hi e => by have h1 := HG5.out.2; omega)))
  have HZ7 : RowKit.Hid (∀ w', Kept (fun i => i = g5) W4.drew w' → Calls Try.prog 27 #[.slice (some ⟨bb, off + 7, none⟩) (n - 7) (c - 7)] w' fun e w'' => e = .returned (.int .i64 (num4 a7 a8 a9 b0)) ∧ Below w'.heap.size w' w'') := Lib.hid (fun w' hk => HN7.out w' (RdS.kept_ (HY7.out.below HB4.out.drew) hk HB4.out.size (fun i hi e => by have h1 := HG5.out.2; omega)))
  have HZ11 : RowKit.Hid (∀ w', Kept (fun i => i = g5) W4.drew w' → Calls Try.prog 27 #[.slice (some ⟨bb, off + 11, none⟩) (n - 11) (c - 11)] w' fun e w'' => e = .returned (.int .i64 (num4 b1 b2 b3 b4)) ∧ Below w'.heap.size w' w'') := Lib.hid (fun w' hk => HN11.out w' (RdS.kept_ (HY11.out.below HB4.out.drew) hk HB4.out.size (fun i hi e => by have h1 := HG5.out.2; omega)))
  have HKa : RowKit.Hid (Kept (fun i => i = g5) W4 W4.drew) := Lib.hid ((Kept.refl _ _).drew)
  have HFa := Lib.hid HF4.out.drew
  refine wp_region_reg (fun i => i = g5) (by kernel_rfl) ?_
  apply wpR_next 0 (some 44)
  · simp only [List.getElem?_toArray, List.getElem?_cons_succ, List.getElem?_cons_zero]; exact rfl
  · rfl
  · kernel_rfl
  · kernel_rfl
  · kernel_rfl
  · exact fun _ _ _ _ h => h
  apply Exists.intro
  apply And.intro
  · apply yr_run; rfl; intro w' hw'; go_simp; (try with_reducible rfl)
  try simp only [Act.put, List.setIfInBounds_toArray, List.set_cons_zero, List.set_cons_succ]
  apply wpR_next 1 (some 45)
  · simp only [List.getElem?_toArray, List.getElem?_cons_succ, List.getElem?_cons_zero]; exact rfl
  · rfl
  · kernel_rfl
  · kernel_rfl
  · kernel_rfl
  · exact fun _ _ _ _ h => h
  apply Exists.intro
  apply And.intro
  · exact yr_run (by rfl) (fun w' h => exec_slice_low_as 22 5 (.tmp 44) (.const (.int .i64 3)) rfl Try.underlying22 (s := 1) (by kernel_rfl) rfl rfl hN3 HA3.out rfl rfl)
  try simp only [Act.put, List.setIfInBounds_toArray, List.set_cons_zero, List.set_cons_succ]
  apply wpR_next 2 (some 46)
  · simp only [List.getElem?_toArray, List.getElem?_cons_succ, List.getElem?_cons_zero]; exact rfl
  · rfl
  · kernel_rfl
  · kernel_rfl
  · kernel_rfl
  · exact fun _ _ _ _ h => h
  apply Exists.intro
  apply And.intro
  · apply yr_call; rfl; rotate_left; intro w' hw'; exact HZ3.out w' hw'; intro w'; go_simp
  try simp only [Act.put, List.setIfInBounds_toArray, List.set_cons_zero, List.set_cons_succ]
  apply wpR_next 3 (some 47)
  · simp only [List.getElem?_toArray, List.getElem?_cons_succ, List.getElem?_cons_zero]; exact rfl
  · rfl
  · kernel_rfl
  · kernel_rfl
  · kernel_rfl
  · exact fun _ _ _ _ h => h
  apply Exists.intro
  apply And.intro
  · apply yr_run; rfl; intro w' hw'; go_simp; (try with_reducible rfl)
  try simp only [Act.put, List.setIfInBounds_toArray, List.set_cons_zero, List.set_cons_succ]
  apply wpR_next 4 (some 48)
  · simp only [List.getElem?_toArray, List.getElem?_cons_succ, List.getElem?_cons_zero]; exact rfl
  · rfl
  · kernel_rfl
  · kernel_rfl
  · kernel_rfl
  · exact fun _ _ _ _ h => h
  apply Exists.intro
  apply And.intro
  · exact yr_run (by rfl) (fun w' h => exec_slice_low_as 22 5 (.tmp 47) (.const (.int .i64 7)) rfl Try.underlying22 (s := 1) (by kernel_rfl) rfl rfl hN7 HA7.out rfl rfl)
  try simp only [Act.put, List.setIfInBounds_toArray, List.set_cons_zero, List.set_cons_succ]
  apply wpR_next 5 (some 49)
  · simp only [List.getElem?_toArray, List.getElem?_cons_succ, List.getElem?_cons_zero]; exact rfl
  · rfl
  · kernel_rfl
  · kernel_rfl
  · kernel_rfl
  · exact fun _ _ _ _ h => h
  apply Exists.intro
  apply And.intro
  · apply yr_call; rfl; rotate_left; intro w' hw'; exact HZ7.out w' hw'; intro w'; go_simp
  try simp only [Act.put, List.setIfInBounds_toArray, List.set_cons_zero, List.set_cons_succ]
  apply wpR_next 6 (some 50)
  · simp only [List.getElem?_toArray, List.getElem?_cons_succ, List.getElem?_cons_zero]; exact rfl
  · rfl
  · kernel_rfl
  · kernel_rfl
  · kernel_rfl
  · exact fun _ _ _ _ h => h
  apply Exists.intro
  apply And.intro
  · apply yr_run; rfl; intro w' hw'; go_simp; (try with_reducible rfl)
  try simp only [Act.put, List.setIfInBounds_toArray, List.set_cons_zero, List.set_cons_succ]
  apply wpR_next 7 (some 51)
  · simp only [List.getElem?_toArray, List.getElem?_cons_succ, List.getElem?_cons_zero]; exact rfl
  · rfl
  · kernel_rfl
  · kernel_rfl
  · kernel_rfl
  · exact fun _ _ _ _ h => h
  apply Exists.intro
  apply And.intro
  · exact yr_run (by rfl) (fun w' h => exec_slice_low_as 22 5 (.tmp 50) (.const (.int .i64 11)) rfl Try.underlying22 (s := 1) (by kernel_rfl) rfl rfl hN11 HA11.out rfl rfl)
  try simp only [Act.put, List.setIfInBounds_toArray, List.set_cons_zero, List.set_cons_succ]
  apply wpR_next 8 (some 52)
  · simp only [List.getElem?_toArray, List.getElem?_cons_succ, List.getElem?_cons_zero]; exact rfl
  · rfl
  · kernel_rfl
  · kernel_rfl
  · kernel_rfl
  · exact fun _ _ _ _ h => h
  apply Exists.intro
  apply And.intro
  · apply yr_call; rfl; rotate_left; intro w' hw'; exact HZ11.out w' hw'; intro w'; go_simp
  try simp only [Act.put, List.setIfInBounds_toArray, List.set_cons_zero, List.set_cons_succ]
  apply wpR_next 9 (some 53)
  · simp only [List.getElem?_toArray, List.getElem?_cons_succ, List.getElem?_cons_zero]; exact rfl
  · rfl
  · kernel_rfl
  · kernel_rfl
  · kernel_rfl
  · exact fun _ _ _ _ h => h
  apply Exists.intro
  apply And.intro
  · apply yr_run; rfl; intro w' hw'; go_simp; (try with_reducible rfl)
  try simp only [Act.put, List.setIfInBounds_toArray, List.set_cons_zero, List.set_cons_succ]
  apply wpR_store 10
  · simp only [List.getElem?_toArray, List.getElem?_cons_succ, List.getElem?_cons_zero]; exact rfl
  · rfl
  · kernel_rfl
  · rfl
  intro w' hw'
  have HFq := Lib.hid (HFa.out.below hw')
  have hcc := HFq.out.cell (i := 3) rfl
  have hff := HFq.out.free 3
  refine ⟨w'.setCell ⟨g5, 3, none⟩ (.int .i64 (num4 a3 a4 a5 a6)), ?_, (Kept.refl (fun i => i = g5) w').setCell (p := ⟨g5, 3, none⟩) (.inl rfl) _, ?_⟩
  · go_simp; first | done | exact rfl
  have HF10 : RowKit.Hid (Whole (w'.setCell ⟨g5, 3, none⟩ (.int .i64 (num4 a3 a4 a5 a6))) g5 24 [.int .i64 (a0 : Int), .int .i64 (a1 : Int), .int .i64 (a2 : Int), .int .i64 (num4 a3 a4 a5 a6), .int .i64 0, .int .i64 0, .slice Ac Bd.length cc]) := Lib.hid (HFq.out.set_ 3 _)
  have HK10 : RowKit.Hid (Kept (fun i => i = g5) W4 (w'.setCell ⟨g5, 3, none⟩ (.int .i64 (num4 a3 a4 a5 a6)))) := Lib.hid ((HKa.out.trans (Kept.of_ext hw')).setCell (.inl rfl) _)
  obtain ⟨V10, gV10⟩ : ∃ x, w'.setCell ⟨g5, 3, none⟩ (.int .i64 (num4 a3 a4 a5 a6)) = x := ⟨_, rfl⟩
  rw [gV10] at HF10 HK10 ⊢
  clear gV10 hw' hcc hff HFq HFa HKa
  try simp only [Act.put, List.setIfInBounds_toArray, List.set_cons_zero, List.set_cons_succ]
  apply wpR_next 11 (some 54)
  · simp only [List.getElem?_toArray, List.getElem?_cons_succ, List.getElem?_cons_zero]; exact rfl
  · rfl
  · kernel_rfl
  · kernel_rfl
  · kernel_rfl
  · exact fun _ _ _ _ h => h
  apply Exists.intro
  apply And.intro
  · apply yr_run; rfl; intro w' hw'; go_simp; (try with_reducible rfl)
  try simp only [Act.put, List.setIfInBounds_toArray, List.set_cons_zero, List.set_cons_succ]
  apply wpR_store 12
  · simp only [List.getElem?_toArray, List.getElem?_cons_succ, List.getElem?_cons_zero]; exact rfl
  · rfl
  · kernel_rfl
  · rfl
  intro w' hw'
  have HFq := Lib.hid (HF10.out.below hw')
  have hcc := HFq.out.cell (i := 4) rfl
  have hff := HFq.out.free 4
  refine ⟨w'.setCell ⟨g5, 4, none⟩ (.int .i64 (num4 a7 a8 a9 b0)), ?_, (Kept.refl (fun i => i = g5) w').setCell (p := ⟨g5, 4, none⟩) (.inl rfl) _, ?_⟩
  · go_simp; first | done | exact rfl
  have HF12 : RowKit.Hid (Whole (w'.setCell ⟨g5, 4, none⟩ (.int .i64 (num4 a7 a8 a9 b0))) g5 24 [.int .i64 (a0 : Int), .int .i64 (a1 : Int), .int .i64 (a2 : Int), .int .i64 (num4 a3 a4 a5 a6), .int .i64 (num4 a7 a8 a9 b0), .int .i64 0, .slice Ac Bd.length cc]) := Lib.hid (HFq.out.set_ 4 _)
  have HK12 : RowKit.Hid (Kept (fun i => i = g5) W4 (w'.setCell ⟨g5, 4, none⟩ (.int .i64 (num4 a7 a8 a9 b0)))) := Lib.hid ((HK10.out.trans (Kept.of_ext hw')).setCell (.inl rfl) _)
  obtain ⟨V12, gV12⟩ : ∃ x, w'.setCell ⟨g5, 4, none⟩ (.int .i64 (num4 a7 a8 a9 b0)) = x := ⟨_, rfl⟩
  rw [gV12] at HF12 HK12 ⊢
  clear gV12 hw' hcc hff HFq HF10 HK10
  try simp only [Act.put, List.setIfInBounds_toArray, List.set_cons_zero, List.set_cons_succ]
  apply wpR_next 13 (some 55)
  · simp only [List.getElem?_toArray, List.getElem?_cons_succ, List.getElem?_cons_zero]; exact rfl
  · rfl
  · kernel_rfl
  · kernel_rfl
  · kernel_rfl
  · exact fun _ _ _ _ h => h
  apply Exists.intro
  apply And.intro
  · apply yr_run; rfl; intro w' hw'; go_simp; (try with_reducible rfl)
  try simp only [Act.put, List.setIfInBounds_toArray, List.set_cons_zero, List.set_cons_succ]
  apply wpR_store 14
  · simp only [List.getElem?_toArray, List.getElem?_cons_succ, List.getElem?_cons_zero]; exact rfl
  · rfl
  · kernel_rfl
  · rfl
  intro w' hw'
  have HFq := Lib.hid (HF12.out.below hw')
  have hcc := HFq.out.cell (i := 5) rfl
  have hff := HFq.out.free 5
  refine ⟨w'.setCell ⟨g5, 5, none⟩ (.int .i64 (num4 b1 b2 b3 b4)), ?_, (Kept.refl (fun i => i = g5) w').setCell (p := ⟨g5, 5, none⟩) (.inl rfl) _, ?_⟩
  · go_simp; first | done | exact rfl
  have HF14 : RowKit.Hid (Whole (w'.setCell ⟨g5, 5, none⟩ (.int .i64 (num4 b1 b2 b3 b4))) g5 24 [.int .i64 (a0 : Int), .int .i64 (a1 : Int), .int .i64 (a2 : Int), .int .i64 (num4 a3 a4 a5 a6), .int .i64 (num4 a7 a8 a9 b0), .int .i64 (num4 b1 b2 b3 b4), .slice Ac Bd.length cc]) := Lib.hid (HFq.out.set_ 5 _)
  have HK14 : RowKit.Hid (Kept (fun i => i = g5) W4 (w'.setCell ⟨g5, 5, none⟩ (.int .i64 (num4 b1 b2 b3 b4)))) := Lib.hid ((HK12.out.trans (Kept.of_ext hw')).setCell (.inl rfl) _)
  obtain ⟨V14, gV14⟩ : ∃ x, w'.setCell ⟨g5, 5, none⟩ (.int .i64 (num4 b1 b2 b3 b4)) = x := ⟨_, rfl⟩
  rw [gV14] at HF14 HK14 ⊢
  clear gV14 hw' hcc hff HFq HF12 HK12
  try simp only [Act.put, List.setIfInBounds_toArray, List.set_cons_zero, List.set_cons_succ]
  refine wpR_done (by kernel_rfl) ?_ _
  intro W5 hw5
  have HF5 := Lib.hid (HF14.out.below hw5)
  have HK5 : RowKit.Hid (Kept (fun i => i = g5) W4 W5) := Lib.hid (HK14.out.trans (Kept.of_ext hw5))
  clear hw5 HF14 HK14 HZ3 HZ7 HZ11
  have HO5 := Lib.hid (HK5.out.whole HO4.out HG5.out.1)
  have HB5 : RowKit.Hid (Below w.heap.size w W5) := Lib.hid (HB4.out.trans (HK5.out.below HB4.out.size (fun i hi e => by have h1 := HG5.out.2; omega)))
  have HC5 := Lib.hid (HC4.out.kept_ne HK5.out (fun a ha hn e => HNV.out a ha hn (by rw [e])))
  clear HK5 HF4 HO4 HB4 HC4
  have HM := Lib.hid (fun w' => fmay_any (⟨(a0 : Int), (a1 : Int), (a2 : Int), num4 a3 a4 a5 a6, num4 a7 a8 a9 b0, num4 b1 b2 b3 b4⟩ : FrT) Ac Bd.length cc w')
  rw [HMz.out] at HM HOk
  unfold frCells at HM
  go_upto_region 6 with fail
  refine wp_region_lit ?_
  refine wpList_load_row rfl 24 (.tmp 5) rfl g5 rfl 24 #[.int .i64 (a0 : Int), .int .i64 (a1 : Int), .int .i64 (a2 : Int), .int .i64 (num4 a3 a4 a5 a6), .int .i64 (num4 a7 a8 a9 b0), .int .i64 (num4 b1 b2 b3 b4), .slice Ac Bd.length cc] (0, 0) _ HF5.out Try.underlying24 rfl (by kernel_rfl) ?_
  simp only [Act.put, List.setIfInBounds_toArray, List.set_cons_zero, List.set_cons_succ]
  by_cases hz : z = 0
  · subst hz
    go_wp2_with fail
    refine (HM.out _).mono ?_
    rintro e W6 ⟨rfl, hb6⟩
    have HF6 := Lib.hid (HF5.out.below hb6)
    have HO6 := Lib.hid (HO5.out.below hb6)
    have HB6 : RowKit.Hid (Below w.heap.size w W6) := Lib.hid (bel_bl HB5.out hb6)
    have HC6 := Lib.hid (HC5.out.bl hb6)
    clear hb6 HF5 HO5 HB5 HC5 HM
    go_upto_region 8 with fail
    refine wp_region_lit ?_
    refine wpList_load_row rfl 24 (.tmp 5) rfl g5 rfl 24 #[.int .i64 (a0 : Int), .int .i64 (a1 : Int), .int .i64 (a2 : Int), .int .i64 (num4 a3 a4 a5 a6), .int .i64 (num4 a7 a8 a9 b0), .int .i64 (num4 b1 b2 b3 b4), .slice Ac Bd.length cc] (0, 0) _ HF6.out Try.underlying24 rfl (by kernel_rfl) ?_
    simp only [Act.put, List.setIfInBounds_toArray, List.set_cons_zero, List.set_cons_succ]
    refine wpList_store_row rfl 24 (.tmp 2) (.tmp 60) rfl g0 #[.int .i64 (a0 : Int), .int .i64 (a1 : Int), .int .i64 (a2 : Int), .int .i64 (num4 a3 a4 a5 a6), .int .i64 (num4 a7 a8 a9 b0), .int .i64 (num4 b1 b2 b3 b4), .slice Ac Bd.length cc] rfl rfl 24 #[.int .i64 0, .int .i64 0, .int .i64 0, .int .i64 0, .int .i64 0, .int .i64 0, .slice none 0 0] HO6.out (by kernel_rfl) rfl (by simp [Value.oneCell']) ?_
    have HO9 : RowKit.Hid (Whole (W6.setRow g0 #[.int .i64 (a0 : Int), .int .i64 (a1 : Int), .int .i64 (a2 : Int), .int .i64 (num4 a3 a4 a5 a6), .int .i64 (num4 a7 a8 a9 b0), .int .i64 (num4 b1 b2 b3 b4), .slice Ac Bd.length cc]) g0 24 [.int .i64 (a0 : Int), .int .i64 (a1 : Int), .int .i64 (a2 : Int), .int .i64 (num4 a3 a4 a5 a6), .int .i64 (num4 a7 a8 a9 b0), .int .i64 (num4 b1 b2 b3 b4), .slice Ac Bd.length cc]) := Lib.hid (setRow_heap W6 g0 _ _ _ _ HO6.out)
    have HB9 : RowKit.Hid (Below w.heap.size w (W6.setRow g0 #[.int .i64 (a0 : Int), .int .i64 (a1 : Int), .int .i64 (a2 : Int), .int .i64 (num4 a3 a4 a5 a6), .int .i64 (num4 a7 a8 a9 b0), .int .i64 (num4 b1 b2 b3 b4), .slice Ac Bd.length cc])) := Lib.hid (below_row HB6.out HG0.out.1 _)
    have HC9 := Lib.hid (HC6.out.row_far (g := g0) (fun a ha hn e => by have h1 := HNw2.out a ha hn; have h2 := Option.some.inj e; omega) #[.int .i64 (a0 : Int), .int .i64 (a1 : Int), .int .i64 (a2 : Int), .int .i64 (num4 a3 a4 a5 a6), .int .i64 (num4 a7 a8 a9 b0), .int .i64 (num4 b1 b2 b3 b4), .slice Ac Bd.length cc])
    obtain ⟨W9, gW9⟩ : ∃ x, W6.setRow g0 #[.int .i64 (a0 : Int), .int .i64 (a1 : Int), .int .i64 (a2 : Int), .int .i64 (num4 a3 a4 a5 a6), .int .i64 (num4 a7 a8 a9 b0), .int .i64 (num4 b1 b2 b3 b4), .slice Ac Bd.length cc] = x := ⟨_, rfl⟩
    rw [gW9] at HO9 HB9 HC9 ⊢
    clear gW9 HO6 HB6 HC6 HF6
    have x0 := HO9.out.cell (i := 0) rfl
    have x1 := HO9.out.cell (i := 1) rfl
    have x2 := HO9.out.cell (i := 2) rfl
    have x3 := HO9.out.cell (i := 3) rfl
    have x4 := HO9.out.cell (i := 4) rfl
    have x5 := HO9.out.cell (i := 5) rfl
    have x6 := HO9.out.cell (i := 6) rfl
    go_wp2
    refine bodyPost_ret (v := .tuple #[.agg #[.int .i64 (a0 : Int), .int .i64 (a1 : Int), .int .i64 (a2 : Int), .int .i64 (num4 a3 a4 a5 a6), .int .i64 (num4 a7 a8 a9 b0), .int .i64 (num4 b1 b2 b3 b4), .slice Ac Bd.length cc], .int .i64 0]) (by simp [results, Try.results17, go_sem, x0, x1, x2, x3, x4, x5, x6]) rfl ?_
    refine gives_yes (A := Ac) (c := cc) (by rw [HOk.out]; rfl) ?_ ?_ ?_ HB9.out
    · rw [HBd.out, HFr.out]; rfl
    · rw [HBd.out]; exact HC9.out
    · rw [HBd.out]; exact HNew.out
  · have q : (z == 0) = false := beq_eq_false_iff_ne.2 hz
    have q' : (z != 0) = true := bne_iff_ne.2 hz
    have HOk2 : RowKit.Hid (okF L = false) := Lib.hid (by rw [HOk.out]; exact decide_eq_false hz)
    clear hz
    go_wp2_with fail
    refine (HM.out _).mono ?_
    rintro e W6 ⟨rfl, hb6⟩
    have HO6 := Lib.hid (HO5.out.below hb6)
    have HB6 : RowKit.Hid (Below w.heap.size w W6) := Lib.hid (bel_bl HB5.out hb6)
    clear hb6 HF5 HO5 HB5 HC5 HM
    go_upto_region 7 with fail
    refine wp_region_lit ?_
    refine wl_read (v := ?_) (some 59) rfl (by rfl) ?_ ?_
    rotate_left
    · go_simp; (try with_reducible rfl)
    simp only [Act.put, List.setIfInBounds_toArray, List.set_cons_zero, List.set_cons_succ]
    refine wpList_store_row rfl 24 (.tmp 2) (.tmp 59) rfl g0 #[.int .i64 0, .int .i64 0, .int .i64 0, .int .i64 0, .int .i64 0, .int .i64 0, .slice none 0 0] rfl rfl 24 #[.int .i64 0, .int .i64 0, .int .i64 0, .int .i64 0, .int .i64 0, .int .i64 0, .slice none 0 0] HO6.out (by kernel_rfl) rfl (by simp [Value.oneCell']) ?_
    have HO9 : RowKit.Hid (Whole (W6.setRow g0 #[.int .i64 0, .int .i64 0, .int .i64 0, .int .i64 0, .int .i64 0, .int .i64 0, .slice none 0 0]) g0 24 [.int .i64 0, .int .i64 0, .int .i64 0, .int .i64 0, .int .i64 0, .int .i64 0, .slice none 0 0]) := Lib.hid (setRow_heap W6 g0 _ _ _ _ HO6.out)
    have HB9 : RowKit.Hid (Below w.heap.size w (W6.setRow g0 #[.int .i64 0, .int .i64 0, .int .i64 0, .int .i64 0, .int .i64 0, .int .i64 0, .slice none 0 0])) := Lib.hid (below_row HB6.out HG0.out.1 _)
    obtain ⟨W9, gW9⟩ : ∃ x, W6.setRow g0 #[.int .i64 0, .int .i64 0, .int .i64 0, .int .i64 0, .int .i64 0, .int .i64 0, .slice none 0 0] = x := ⟨_, rfl⟩
    rw [gW9] at HO9 HB9 ⊢
    clear gW9 HO6 HB6
    have x0 := HO9.out.cell (i := 0) rfl
    have x1 := HO9.out.cell (i := 1) rfl
    have x2 := HO9.out.cell (i := 2) rfl
    have x3 := HO9.out.cell (i := 3) rfl
    have x4 := HO9.out.cell (i := 4) rfl
    have x5 := HO9.out.cell (i := 5) rfl
    have x6 := HO9.out.cell (i := 6) rfl
    go_wp2
    refine bodyPost_ret (v := .tuple #[.agg #[.int .i64 0, .int .i64 0, .int .i64 0, .int .i64 0, .int .i64 0, .int .i64 0, .slice none 0 0], .int .i64 2]) (by simp [results, Try.results17, go_sem, x0, x1, x2, x3, x4, x5, x6]) rfl (gives_not HOk2.out rfl HB9.out)
theorem take_any (A : Option Addr) (n c : Nat) (L : List Nat) (w : World) (h : RdS w w.heap.size 1 A n c (rowsV f8 L)) (hb : ∀ b ∈ L, b < 256) (hn : n ≤ maxLen) :
    Calls Try.prog 17 #[.slice A n c] w (GivesT w L) := by
  have hl := h.rlen f8_len (by decide)
  by_cases h1 : n < 19
  · exact (take_a A n c L w h hn h1).mono fun e w' ⟨h2, h3⟩ => gives_not (by unfold okF; rw [decide_eq_false (by omega : ¬ (19 ≤ L.length ∧ L.length ≤ 16403))]; rfl) h2 h3
  by_cases h2 : 16403 < n
  · exact (take_b A n c L w h hn h2).mono fun e w' ⟨h2, h3⟩ => gives_not (by unfold okF; rw [decide_eq_false (by omega : ¬ (19 ≤ L.length ∧ L.length ≤ 16403))]; rfl) h2 h3
  cases hS : sealB L
  · exact (take_c A n c L w h hb (by omega) (by omega) hS).mono fun e w' ⟨h2, h3⟩ => gives_not (by unfold okF; rw [hS]; simp) h2 h3
  · exact take_d A n c L w h hb (by omega) (by omega) hS rfl
end Go.Proofs.Ytgmjehejaailpaa
