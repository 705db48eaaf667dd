/- 'PackPuts' answers true for every diagram.
   No condition beyond the row's own. -/
import Derived.Test.YtahbfdhjgnlmdaaGreatZBK
import Derived.Test.YtahbfdhjgnlmdaaGreatRows
import Derived.Test.YtahbfdhjgnlmdaaGreatZBF
import Derived.Test.YtahbfdhjgnlmdaaGreatZBB

/- The document's Put. -/
namespace Go.Proofs.YtahbfdhjgnlmdaaGreat
open Go.RowKit
set_option linter.unusedSimpArgs false
set_option linter.unusedVariables false

set_option maxRecDepth 100000 in
set_option maxHeartbeats 4000000 in
theorem rput_not (A : Option Addr) (n c : Nat) (Vs : List VC) (B : Option Addr) (m k : Nat) (Es : List EC) (w : World) (h : DgIn w A n c Vs B m k Es) (hg : GoodD Vs Es) (hr : ∀ x ∈ Vs, x.2.1.2.1 ≤ 1000000) (hm : mayF7 Vs Es ≠ 0) :
    Calls Tryz.prog 8 #[.agg #[.slice A n c, .slice B m k]] w fun e w' => e = .returned (.tuple #[.slice none 0 0, .int .i64 (mayF7 Vs Es)]) ∧ Below w.heap.size w w' := by
  have HM := Lib.hid (rmay7b_any (A := A) (n := n) (c := c) (B := B) (m := m) (k := k) hr hg)
  have HD := Lib.hid h
  obtain ⟨x, gx⟩ : ∃ z, mayF7 Vs Es = z := ⟨_, rfl⟩
  rw [gx] at HM hm ⊢
  have hne : (x != 0) = true := bne_iff_ne.2 hm
  clear h hg hr hm gx
  go_enter Tryz.func8, Tryz.ntmps8
  go_upto_region 1 with fail
  have hx0 : Whole (w.alloc (.cells #[.slice A n c, .slice B m k] 25)) (w.heap.size) 25 [.slice A n c, .slice B m k] := (Whole.new_ w 25 [.slice A n c, .slice B m k])
  have hbl : Below w.heap.size w (w.alloc (.cells #[.slice A n c, .slice B m k] 25)) := (below1 w (.cells #[.slice A n c, .slice B m k] 25))
  have hsz : w.heap.size + 1 ≤ ((w.alloc (.cells #[.slice A n c, .slice B m k] 25))).heap.size := by simp
  obtain ⟨W0, gW0⟩ : ∃ z, (w.alloc (.cells #[.slice A n c, .slice B m k] 25)) = z := ⟨_, rfl⟩
  rw [gW0] at hx0 hbl hsz
  obtain ⟨b0, gb0⟩ : ∃ z, w.heap.size = z := ⟨_, rfl⟩
  rw [gb0] at hx0
  have HX0 := Lib.hid hx0
  have HB0 := Lib.hid hbl
  have HS0 := Lib.hid hsz
  have Gb0 := Lib.hid gb0
  have Lb0 : RowKit.Hid (w.heap.size ≤ b0) := Lib.hid (by omega)
  rw [gW0, gb0]
  clear gW0 hbl hsz hx0 gb0
  have c0 := HX0.out.cell (i := 0) rfl
  have c1 := HX0.out.cell (i := 1) rfl
  have HD0 := Lib.hid (HD.out.bl HB0.out)
  go_wp2_with (first | (go_at_call 12; refine (HM.out _ HD0.out).mono ?_; rintro e w2 ⟨rfl, hb2⟩; have HB2 := Lib.hid (Ext.trans HB0.out hb2); clear hb2 c0 c1))
  exact bodyPost_ret (v := .tuple #[.slice none 0 0, .int .i64 x]) (by simp [results, Tryz.results8, go_sem]) rfl ⟨rfl, HB2.out⟩
/-- What the parts of a head are appended by, one upon the other. -/
theorem rhead3 {X : List Nat} {N : Nat} {x1 x2 : Int} {el : ByteArray} (et : Int) (hN : X.length = N) (hX : N ≤ 4000) (hi : mayI x1 x2 = true) (he : el.size ≤ 16) :
    ∃ X1 X2 X3 N1 N2 N3, X3 = X ++ headB (x1, x2) el et ∧ X3.length = N3 ∧
      (∀ (A : Option Addr) (c : Nat) W, RdS W W.heap.size 1 A N c (rowsV f8 X) → Calls Tryz.prog 18 #[.slice A N c, .agg #[.int .i64 x1, .int .i64 x2]] W fun e w' => ∃ A' c', e = .returned (.slice A' N1 c') ∧ RdS w' w'.heap.size 1 A' N1 c' (rowsV f8 X1) ∧ Below W.heap.size W w') ∧
      (∀ (A : Option Addr) (c : Nat) W, RdS W W.heap.size 1 A N1 c (rowsV f8 X1) → Calls Tryz.prog 17 #[.slice A N1 c, .string el] W fun e w' => ∃ A' c', e = .returned (.slice A' N2 c') ∧ RdS w' w'.heap.size 1 A' N2 c' (rowsV f8 X2) ∧ Below W.heap.size W w') ∧
      (∀ (A : Option Addr) (c : Nat) W, RdS W W.heap.size 1 A N2 c (rowsV f8 X2) → Calls Tryz.prog 16 #[.slice A N2 c, .int .i64 et] W fun e w' => ∃ A' c', e = .returned (.slice A' N3 c') ∧ w'.ownsRow W.heap.size 5 1 (.slice A' N3 c') N3 (rowsV f8 X3) ∧ Below W.heap.size W w') := by
  subst hN
  have l1 : (X ++ idB (x1, x2)).length = X.length + 4 := by rw [List.length_append]; rfl
  have l2 : (X ++ idB (x1, x2) ++ textB el).length ≤ 4100 := by rw [List.length_append, l1, textB, List.length_append, List.length_singleton, tB_len]; omega
  refine ⟨X ++ idB (x1, x2), X ++ idB (x1, x2) ++ textB el, X ++ idB (x1, x2) ++ textB el ++ be8 et, (X ++ idB (x1, x2)).length, (X ++ idB (x1, x2) ++ textB el).length, (X ++ idB (x1, x2) ++ textB el ++ be8 et).length, by unfold headB; simp only [List.append_assoc], rfl, fun A c W h => ?_, fun A c W h => ?_, fun A c W h => ?_⟩
  · refine (ridput_any A c X x1 x2 W h (by omega) hi).mono ?_
    rintro e w' ⟨A', c', rfl, hr, -, -, hb⟩
    exact ⟨A', c', rfl, hr, hb⟩
  · refine (rtext_any A c _ el W h (by omega) (by omega)).mono ?_
    rintro e w' ⟨A', c', rfl, hr, -, -, hb⟩
    exact ⟨A', c', rfl, hr, hb⟩
  · refine (rnum_any A c _ et W h (by omega)).mono ?_
    rintro e w' ⟨A', c', rfl, -, -, ho, hb⟩
    exact ⟨A', c', rfl, ho, hb⟩
set_option maxRecDepth 100000 in
set_option maxHeartbeats 4000000 in
theorem rput_yes (A : Option Addr) (n c : Nat) (Vs : List VC) (B : Option Addr) (m k : Nat) (Es : List EC) (w : World) (h : DgIn w A n c Vs B m k Es) (hg : GoodD Vs Es) (hr : ∀ x ∈ Vs, x.2.1.2.1 ≤ 1000000) (hm : mayF7 Vs Es = 0) :
    Calls Tryz.prog 8 #[.agg #[.slice A n c, .slice B m k]] w fun e w' => ∃ A' c', e = .returned (.tuple #[.slice A' (putD (Vs.map vS) Es).length c', .int .i64 0]) ∧ w'.ownsRow w.heap.size 5 1 (.slice A' (putD (Vs.map vS) Es).length c') (putD (Vs.map vS) Es).length (rowsV f8 (putD (Vs.map vS) Es)) ∧ Below w.heap.size w w' := by
  have HMy := Lib.hid (rmay7b_any (A := A) (n := n) (c := c) (B := B) (m := m) (k := k) hr hg)
  rw [hm] at HMy
  have HD := Lib.hid h
  have HE := Lib.hid h.e
  have HV := Lib.hid h.v
  have HR := Lib.hid h.r
  have hf := may7_formed hm
  have HF := Lib.hid hf
  have Hle : RowKit.Hid (Es.length = m) := Lib.hid (h.e.rlen eC_len (by decide))
  have Hlv : RowKit.Hid (Vs.length = n) := Lib.hid (h.v.rlen vC_len (by decide))
  have hm40 : m ≤ 40 := by have := hf.e40; have := Hle.out; omega
  have hn24 : n ≤ 24 := by have := hf.v24; have := Hlv.out; omega
  have hP4 := putD_max hf
  have HGd := Lib.hid hg
  have HoE := Lib.hid hf.okE
  have HoV : RowKit.Hid (∀ v ∈ Vs, okV Es (vS v)) := Lib.hid (fun v hv => hf.okV (fun v hv => by have := hf.ring v hv; omega) (vS v) (List.mem_map.2 ⟨v, hv, rfl⟩))
  obtain ⟨Us, gUs⟩ : ∃ z, Vs.map vS = z := ⟨_, rfl⟩
  have HUs := Lib.hid gUs
  rw [gUs] at hP4 ⊢
  have hall := rest_all Es Us
  obtain ⟨P, gP⟩ : ∃ z, putD Us Es = z := ⟨_, rfl⟩
  rw [gP] at hP4 hall ⊢
  have HP4 := Lib.hid hP4
  rw [Hle.out] at hall
  have HUl : RowKit.Hid (Us.length = n) := Lib.hid (by rw [← gUs, List.length_map]; exact Hlv.out)
  obtain ⟨m8, gm8⟩ : ∃ z, m % 256 = z := ⟨_, rfl⟩
  rw [gm8] at hall
  have Hall := Lib.hid hall
  have hw8 : IntKind.u8.wrap (m : Int) = (m8 : Int) := by rw [IntKind.wrap_u8]; omega
  clear h hg hr hm hf gUs gP gm8 hall hP4
  go_enter Tryz.func8, Tryz.ntmps8
  go_upto_region 1 with fail
  have hx0 : Whole (w.alloc (.cells #[.slice A n c, .slice B m k] 25)) (w.heap.size) 25 [.slice A n c, .slice B m k] := (Whole.new_ w 25 [.slice A n c, .slice B m k])
  have hbl : Below w.heap.size w (w.alloc (.cells #[.slice A n c, .slice B m k] 25)) := (below1 w (.cells #[.slice A n c, .slice B m k] 25))
  have hsz : w.heap.size + 1 ≤ ((w.alloc (.cells #[.slice A n c, .slice B m k] 25))).heap.size := by simp
  obtain ⟨W0, gW0⟩ : ∃ z, (w.alloc (.cells #[.slice A n c, .slice B m k] 25)) = z := ⟨_, rfl⟩
  rw [gW0] at hx0 hbl hsz
  obtain ⟨b0, gb0⟩ : ∃ z, w.heap.size = z := ⟨_, rfl⟩
  rw [gb0] at hx0
  have HX0 := Lib.hid hx0
  have HB0 := Lib.hid hbl
  have HS0 := Lib.hid hsz
  have Gb0 := Lib.hid gb0
  have Lb0 : RowKit.Hid (w.heap.size ≤ b0) := Lib.hid (by omega)
  rw [gW0, gb0]
  clear gW0 hbl hsz hx0 gb0
  have c0 := HX0.out.cell (i := 0) rfl
  have c1 := HX0.out.cell (i := 1) rfl
  have HD0 := Lib.hid (HD.out.bl HB0.out)
  go_upto_region 4 with (first | (go_at_call 12; refine (HMy.out _ HD0.out).mono ?_; rintro e w2 ⟨rfl, hb2⟩; have HB2 : RowKit.Hid (Below w.heap.size w w2) := Lib.hid (Ext.trans HB0.out hb2); have HX2 := Lib.hid (HX0.out.bl hb2); clear hb2 c0 c1))
  have c1 := HX2.out.cell (i := 1) rfl
  go_upto_region 5 with fail
  clear c1 HX0 HB0 HS0 HD0 HMy hw8
  have HO3 : RowKit.Hid (Ow w w.heap.size 5 1 (.slice (some ⟨w2.heap.size, 0, none⟩) 1 1) 1 (rowsV f8 [m8]) (w2.alloc (.cells #[.int .u8 (m8 : Int)] 5))) := Lib.hid (Ow.new_ (cs := #[.int .u8 (m8 : Int)]) HB2.out (Nat.le_refl _) HB2.out.size (by unfold maxLen; omega) rfl)
  have HX3 := Lib.hid (HX2.out.al (.cells #[.int .u8 (m8 : Int)] 5))
  obtain ⟨w3, gw3⟩ : ∃ z, w2.alloc (.cells #[.int .u8 (m8 : Int)] 5) = z := ⟨_, rfl⟩
  rw [gw3] at HO3 HX3 ⊢
  obtain ⟨a1, ga1⟩ : ∃ z, (some (⟨w2.heap.size, 0, none⟩ : Addr)) = z := ⟨_, rfl⟩
  rw [ga1] at HO3 ⊢
  clear gw3 ga1 HX2 HB2
  have c1 := HX3.out.cell (i := 1) rfl
  go_wp2
  clear c1
  go_loopw [5, 6] (fun v si wr => ∃ (i N : Nat) (A2 : Option Addr) (c2 : Nat) (X : List Nat), i ≤ m ∧ si = .int .i64 i ∧ v = .slice A2 N c2 ∧ RowKit.Hid (Whole wr b0 25 [.slice A n c, .slice B m k]) ∧ RowKit.Hid (Ow w w.heap.size 5 1 (.slice A2 N c2) N (rowsV f8 X) wr) ∧ RowKit.Hid (X.length = N ∧ X ++ restE Es Us i = P)) (fun _ si _ => m - (intOf si).toNat)
  case atStart => exact ⟨0, 1, _, 1, [m8], by omega, rfl, rfl, HX3, HO3, Lib.hid ⟨rfl, Hall.out⟩⟩
  case round =>
    clear HX3 HO3
    obtain ⟨i, N, A2, c2, X, hi_, rfl, rfl, HX, HO, HXX⟩ := hrel
    obtain ⟨wo, gwo⟩ : ∃ z, wr = z := ⟨_, rfl⟩
    rw [gwo] at HX HO ⊢
    clear gwo
    have cb := HX.out.cell (i := 1) rfl
    by_cases him : i < m
    · obtain ⟨e, hx⟩ : ∃ e, Es[i]? = some e := ⟨_, List.getElem?_eq_getElem (by have := Hle.out; omega)⟩
      have hsz := HF.out.size.1 e (List.mem_of_getElem? hx)
      have hid := (HoE.out e (List.mem_of_getElem? hx)).1
      have hrs := HXX.out.2
      rw [restE_next hx, ← List.append_assoc] at hrs
      obtain ⟨eb, eo, gB, hbB, -⟩ := HE.out.place eC_len (by decide) (by omega)
      subst gB
      have hel := (HE.out.up HO.out.below HO.out.below.size).elem eC_len hx
      have l0 := hel 0 _ rfl
      have l1 := hel 1 _ rfl
      have l2 := hel 2 _ rfl
      have l3 := hel 3 _ rfl
      simp only [Addr.add_lit, Nat.add_zero] at l0 l1 l2 l3
      obtain ⟨⟨e1, e2⟩, el, et⟩ := e
      have hbd := rest_len HXX.out.2 HP4.out
      rw [HXX.out.1] at hbd
      obtain ⟨X1, X2, X3, N1, N2, N3, e3, g3, h1, h2, h3⟩ := rhead3 (X := X) (N := N) et HXX.out.1 (by omega) hid hsz
      have HC1 := Lib.hid h1
      have HC2 := Lib.hid h2
      have HC3 := Lib.hid h3
      have Hrs : RowKit.Hid (X3.length = N3 ∧ X3 ++ restE Es Us (i + 1) = P) := Lib.hid ⟨g3, by rw [e3]; exact hrs⟩
      clear hel hsz hid hrs hx hbd h1 h2 h3 e3 g3
      go_upto_region 8 with fail
      clear cb
      have ld0 : ∀ w', Kept Nil_ wo.drew w' → w'.cell? ⟨b0, 1, none⟩ = some (.slice (some ⟨eb, eo, none⟩) m k) := fun w' h => h.nil_cell (HX.out.dr.cell (i := 1) rfl)
      have ld1 : ∀ w', Kept Nil_ wo.drew w' → w'.cell? ⟨eb, eo + i * 4, none⟩ = some (.int .i64 e1) := fun w' h => h.nil_cell (show wo.drew.cell? _ = _ from l0)
      have ld2 : ∀ w', Kept Nil_ wo.drew w' → w'.cell? ⟨eb, eo + i * 4 + 1, none⟩ = some (.int .i64 e2) := fun w' h => h.nil_cell (show wo.drew.cell? _ = _ from l1)
      have ld3 : ∀ w', Kept Nil_ wo.drew w' → w'.cell? ⟨eb, eo + i * 4 + 2, none⟩ = some (.string el) := fun w' h => h.nil_cell (show wo.drew.cell? _ = _ from l2)
      have ld4 : ∀ w', Kept Nil_ wo.drew w' → w'.cell? ⟨eb, eo + i * 4 + 3, none⟩ = some (.int .i64 et) := fun w' h => h.nil_cell (show wo.drew.cell? _ = _ from l3)
      have hD7 : RowKit.Hid (Ext wo wo.drew) := Lib.hid (below_drewN wo.heap.size wo 1)
      refine wp_region_reg (Nil_) (by kernel_rfl) ?_
      apply wpR_next 0 (some 27)
      · simp only [List.getElem?_toArray, List.getElem?_cons_succ, List.getElem?_cons_zero]; exact rfl
      · rfl
      · kernel_rfl
      · kernel_rfl
      · kernel_rfl
      · exact fun _ _ _ _ h => h
      apply Exists.intro
      apply And.intro
      · apply yr_run; rfl; intro w' hw'; go_simp; (try with_reducible rfl)
      simp only [Act.put, List.setIfInBounds_toArray, List.set_cons_zero, List.set_cons_succ]
      apply wpR_next 1 (some 28)
      · simp only [List.getElem?_toArray, List.getElem?_cons_succ, List.getElem?_cons_zero]; exact rfl
      · rfl
      · kernel_rfl
      · kernel_rfl
      · kernel_rfl
      · exact fun _ _ _ _ h => h
      apply Exists.intro
      apply And.intro
      · apply yr_run; rfl; intro w' hw'; go_simp; (try with_reducible rfl)
      simp only [Act.put, List.setIfInBounds_toArray, List.set_cons_zero, List.set_cons_succ]
      apply wpR_next 2 (some 29)
      · simp only [List.getElem?_toArray, List.getElem?_cons_succ, List.getElem?_cons_zero]; exact rfl
      · rfl
      · kernel_rfl
      · kernel_rfl
      · kernel_rfl
      · exact fun _ _ _ _ h => h
      apply Exists.intro
      apply And.intro
      · apply yr_run; rfl; intro w' hw'; go_simp; (try with_reducible rfl)
      simp only [Act.put, List.setIfInBounds_toArray, List.set_cons_zero, List.set_cons_succ]
      apply wpR_next 3 (some 30)
      · simp only [List.getElem?_toArray, List.getElem?_cons_succ, List.getElem?_cons_zero]; exact rfl
      · rfl
      · kernel_rfl
      · kernel_rfl
      · kernel_rfl
      · exact fun _ _ _ _ h => h
      apply Exists.intro
      apply And.intro
      · apply yr_run; rfl; intro w' hw'; go_simp; (try with_reducible rfl)
      simp only [Act.put, List.setIfInBounds_toArray, List.set_cons_zero, List.set_cons_succ]
      apply wpR_next 4 (some 31)
      · simp only [List.getElem?_toArray, List.getElem?_cons_succ, List.getElem?_cons_zero]; exact rfl
      · rfl
      · kernel_rfl
      · kernel_rfl
      · kernel_rfl
      · exact fun _ _ _ _ h => h
      apply Exists.intro
      apply And.intro
      · apply yr_run; rfl; intro w' hw'; go_simp; (try with_reducible rfl)
      simp only [Act.put, List.setIfInBounds_toArray, List.set_cons_zero, List.set_cons_succ]
      apply wpR_next 5 (some 32)
      · simp only [List.getElem?_toArray, List.getElem?_cons_succ, List.getElem?_cons_zero]; exact rfl
      · rfl
      · kernel_rfl
      · kernel_rfl
      · kernel_rfl
      · exact fun _ _ _ _ h => h
      apply Exists.intro
      apply And.intro
      · apply yr_run; rfl; intro w' hw'; go_simp; (try with_reducible rfl)
      simp only [Act.put, List.setIfInBounds_toArray, List.set_cons_zero, List.set_cons_succ]
      apply wpR_next 6 (some 33)
      · simp only [List.getElem?_toArray, List.getElem?_cons_succ, List.getElem?_cons_zero]; exact rfl
      · rfl
      · kernel_rfl
      · kernel_rfl
      · kernel_rfl
      · exact fun _ _ _ _ h => h
      apply Exists.intro
      apply And.intro
      · apply yr_run; rfl; intro w' hw'; go_simp; (try with_reducible rfl)
      simp only [Act.put, List.setIfInBounds_toArray, List.set_cons_zero, List.set_cons_succ]
      apply wpR_next 8 (some 35)
      · simp only [List.getElem?_toArray, List.getElem?_cons_succ, List.getElem?_cons_zero]; exact rfl
      · rfl
      · kernel_rfl
      · kernel_rfl
      · kernel_rfl
      · exact fun _ _ _ _ h => h
      apply Exists.intro
      apply And.intro
      · apply yr_run; rfl; intro w' hw'; go_simp; (try with_reducible rfl)
      simp only [Act.put, List.setIfInBounds_toArray, List.set_cons_zero, List.set_cons_succ]
      apply wpR_next 9 (some 36)
      · simp only [List.getElem?_toArray, List.getElem?_cons_succ, List.getElem?_cons_zero]; exact rfl
      · rfl
      · kernel_rfl
      · kernel_rfl
      · kernel_rfl
      · exact fun _ _ _ _ h => h
      apply Exists.intro
      apply And.intro
      · apply yr_run; rfl; intro w' hw'; go_simp; (try with_reducible rfl)
      simp only [Act.put, List.setIfInBounds_toArray, List.set_cons_zero, List.set_cons_succ]
      apply wpR_next 10 (some 37)
      · simp only [List.getElem?_toArray, List.getElem?_cons_succ, List.getElem?_cons_zero]; exact rfl
      · rfl
      · kernel_rfl
      · kernel_rfl
      · kernel_rfl
      · exact fun _ _ _ _ h => h
      apply Exists.intro
      apply And.intro
      · apply yr_run; rfl; intro w' hw'; go_simp; (try with_reducible rfl)
      simp only [Act.put, List.setIfInBounds_toArray, List.set_cons_zero, List.set_cons_succ]
      apply wpR_next 11 (some 38)
      · simp only [List.getElem?_toArray, List.getElem?_cons_succ, List.getElem?_cons_zero]; exact rfl
      · rfl
      · kernel_rfl
      · kernel_rfl
      · kernel_rfl
      · exact fun _ _ _ _ h => h
      apply Exists.intro
      apply And.intro
      · apply yr_run; rfl; intro w' hw'; go_simp; (try with_reducible rfl)
      simp only [Act.put, List.setIfInBounds_toArray, List.set_cons_zero, List.set_cons_succ]
      apply wpR_next 12 (some 39)
      · simp only [List.getElem?_toArray, List.getElem?_cons_succ, List.getElem?_cons_zero]; exact rfl
      · rfl
      · kernel_rfl
      · kernel_rfl
      · kernel_rfl
      · exact fun _ _ _ _ h => h
      apply Exists.intro
      apply And.intro
      · apply yr_run; rfl; intro w' hw'; go_simp; (try with_reducible rfl)
      simp only [Act.put, List.setIfInBounds_toArray, List.set_cons_zero, List.set_cons_succ]
      apply wpR_next 13 (some 40)
      · simp only [List.getElem?_toArray, List.getElem?_cons_succ, List.getElem?_cons_zero]; exact rfl
      · rfl
      · kernel_rfl
      · kernel_rfl
      · kernel_rfl
      · exact fun _ _ _ _ h => h
      apply Exists.intro
      apply And.intro
      · apply yr_run; rfl; intro w' hw'; go_simp; (try with_reducible rfl)
      simp only [Act.put, List.setIfInBounds_toArray, List.set_cons_zero, List.set_cons_succ]
      apply wpR_next 15 (some 42)
      · simp only [List.getElem?_toArray, List.getElem?_cons_succ, List.getElem?_cons_zero]; exact rfl
      · rfl
      · kernel_rfl
      · kernel_rfl
      · kernel_rfl
      · exact fun _ _ _ _ h => h
      apply Exists.intro
      apply And.intro
      · apply yr_run; rfl; intro w' hw'; go_simp; (try with_reducible rfl)
      simp only [Act.put, List.setIfInBounds_toArray, List.set_cons_zero, List.set_cons_succ]
      apply wpR_next 16 (some 43)
      · simp only [List.getElem?_toArray, List.getElem?_cons_succ, List.getElem?_cons_zero]; exact rfl
      · rfl
      · kernel_rfl
      · kernel_rfl
      · kernel_rfl
      · exact fun _ _ _ _ h => h
      apply Exists.intro
      apply And.intro
      · apply yr_run; rfl; intro w' hw'; go_simp; (try with_reducible rfl)
      simp only [Act.put, List.setIfInBounds_toArray, List.set_cons_zero, List.set_cons_succ]
      apply wpR_next 17 (some 44)
      · simp only [List.getElem?_toArray, List.getElem?_cons_succ, List.getElem?_cons_zero]; exact rfl
      · rfl
      · kernel_rfl
      · kernel_rfl
      · kernel_rfl
      · exact fun _ _ _ _ h => h
      apply Exists.intro
      apply And.intro
      · apply yr_run; rfl; intro w' hw'; go_simp; (try with_reducible rfl)
      simp only [Act.put, List.setIfInBounds_toArray, List.set_cons_zero, List.set_cons_succ]
      apply wpR_next 18 (some 45)
      · simp only [List.getElem?_toArray, List.getElem?_cons_succ, List.getElem?_cons_zero]; exact rfl
      · rfl
      · kernel_rfl
      · kernel_rfl
      · kernel_rfl
      · exact fun _ _ _ _ h => h
      apply Exists.intro
      apply And.intro
      · apply yr_run; rfl; intro w' hw'; go_simp; (try with_reducible rfl)
      simp only [Act.put, List.setIfInBounds_toArray, List.set_cons_zero, List.set_cons_succ]
      apply wpR_next 19 (some 46)
      · simp only [List.getElem?_toArray, List.getElem?_cons_succ, List.getElem?_cons_zero]; exact rfl
      · rfl
      · kernel_rfl
      · kernel_rfl
      · kernel_rfl
      · exact fun _ _ _ _ h => h
      apply Exists.intro
      apply And.intro
      · apply yr_run; rfl; intro w' hw'; go_simp; (try with_reducible rfl)
      simp only [Act.put, List.setIfInBounds_toArray, List.set_cons_zero, List.set_cons_succ]
      apply wpR_next 20 (some 47)
      · simp only [List.getElem?_toArray, List.getElem?_cons_succ, List.getElem?_cons_zero]; exact rfl
      · rfl
      · kernel_rfl
      · kernel_rfl
      · kernel_rfl
      · exact fun _ _ _ _ h => h
      apply Exists.intro
      apply And.intro
      · apply yr_run; rfl; intro w' hw'; go_simp; (try with_reducible rfl)
      simp only [Act.put, List.setIfInBounds_toArray, List.set_cons_zero, List.set_cons_succ]
      apply wpR_call 7 (some 34)
      · simp only [List.getElem?_toArray, List.getElem?_cons_succ, List.getElem?_cons_zero]; exact rfl
      · rfl
      · kernel_rfl
      · rfl
      · intro w'; go_simp; first | done | exact ⟨rfl, rfl⟩ | with_reducible rfl
      intro w' hw'
      refine (HC1.out _ _ w' ((own_rds HO.out.own).bl (Ext.trans hD7.out hw'))).mono ?_
      rintro e w9 ⟨A9, c9, rfl, hr9, hb9⟩
      refine ⟨_, rfl, Kept.of_below hb9, ?_⟩
      have HE1 := Lib.hid (Ext.trans (Ext.trans hD7.out hw') hb9)
      have HQ1 := Lib.hid hr9
      clear hr9 hb9 hw' hD7 HC1
      simp only [Act.put, List.setIfInBounds_toArray, List.set_cons_zero, List.set_cons_succ]
      apply wpR_call 14 (some 41)
      · simp only [List.getElem?_toArray, List.getElem?_cons_succ, List.getElem?_cons_zero]; exact rfl
      · rfl
      · kernel_rfl
      · rfl
      · intro w'; go_simp; first | done | exact ⟨rfl, rfl⟩ | with_reducible rfl
      intro w' hw'
      refine (HC2.out A9 c9 w' (HQ1.out.bl hw')).mono ?_
      rintro e w10 ⟨A10, c10, rfl, hr10, hb10⟩
      refine ⟨_, rfl, Kept.of_below hb10, ?_⟩
      have HE2 := Lib.hid (Ext.trans (Ext.trans HE1.out hw') hb10)
      have HQ2 := Lib.hid hr10
      clear hr10 hb10 hw' HE1 HQ1 HC2
      simp only [Act.put, List.setIfInBounds_toArray, List.set_cons_zero, List.set_cons_succ]
      apply wpR_call 21 (some 48)
      · simp only [List.getElem?_toArray, List.getElem?_cons_succ, List.getElem?_cons_zero]; exact rfl
      · rfl
      · kernel_rfl
      · rfl
      · intro w'; go_simp; first | done | exact ⟨rfl, rfl⟩ | with_reducible rfl
      intro w' hw'
      refine (HC3.out A10 c10 w' (HQ2.out.bl hw')).mono ?_
      rintro e w11 ⟨A11, c11, rfl, ho11, hb11⟩
      refine ⟨_, rfl, Kept.of_below hb11, ?_⟩
      have hE9 := Ext.trans HE2.out hw'
      have HE3 := Lib.hid (Ext.trans hE9 hb11)
      have hbl9 := bel_bl HO.out.below hE9
      have hbl8 := bel_bl HO.out.below HE3.out
      have HO3 : RowKit.Hid (Ow w w.heap.size 5 1 (.slice A11 N3 c11) N3 (rowsV f8 X3) w11) := Lib.hid ⟨own_lo8 ho11 hbl9.size, hbl8, Nat.le_refl _, hbl8.size⟩
      clear ho11 hb11 hw' hE9 hbl9 hbl8 HE2 HQ2 HC3
      simp only [Act.put, List.setIfInBounds_toArray, List.set_cons_zero, List.set_cons_succ]
      apply wpR_next 22 (some 5)
      · simp only [List.getElem?_toArray, List.getElem?_cons_succ, List.getElem?_cons_zero]; exact rfl
      · rfl
      · kernel_rfl
      · kernel_rfl
      · kernel_rfl
      · exact fun _ _ _ _ h => h
      apply Exists.intro
      apply And.intro
      · apply yr_run; rfl; intro w' hw'; go_simp; (try with_reducible rfl)
      simp only [Act.put, List.setIfInBounds_toArray, List.set_cons_zero, List.set_cons_succ]
      refine wpR_done (by kernel_rfl) ?_ _
      intro w12 hw12
      have HX12 := Lib.hid (HX.out.bl (Ext.trans HE3.out hw12))
      have HO12 := Lib.hid (Ow.up HO3.out hw12)
      clear hw12 HE3 HO3 ld0 ld1 ld2 ld3 ld4 l0 l1 l2 l3 HX HO
      go_wp2
      go_roundw
      case rel => exact ⟨i + 1, N3, _, _, X3, by omega, by go_num, rfl, HX12, HO12, Hrs⟩
      case measure => simp [intOf] <;> omega
    · obtain rfl : m = i := by omega
      have hrs := HXX.out.2
      unfold restE at hrs
      rw [List.drop_eq_nil_of_le (by have := Hle.out; omega), List.flatMap_nil, List.nil_append, HUl.out, show n % 256 :: restV Es Us 0 = [n % 256] ++ restV Es Us 0 from rfl, ← List.append_assoc] at hrs
      obtain ⟨n8, gn8⟩ : ∃ z, n % 256 = z := ⟨_, rfl⟩
      have hw8 : IntKind.u8.wrap (n : Int) = (n8 : Int) := by rw [IntKind.wrap_u8]; omega
      rw [gn8] at hrs
      have hXl := HXX.out.1
      have hbd := rest_len hrs HP4.out
      rw [List.length_append, hXl, List.length_singleton] at hbd
      have c0 := HX.out.cell (i := 0) rfl
      have HXa := Lib.hid (HX.out.al (.cells #[.int .u8 (n8 : Int)] 5))
      have HOa := Lib.hid (Ow.up HO.out (below1 wo (.cells #[.int .u8 (n8 : Int)] 5)))
      obtain ⟨A7, c7, w7, hrun, ho7, hg7⟩ := app8 27 HOa.out (one8 wo n8) (by omega)
      have HX7 := Lib.hid (HXa.out.grown hg7 (own_ne HOa.out.own HXa.out (by decide)))
      have HO7 := Lib.hid ho7
      have HX8 : RowKit.Hid ((X ++ [n8]).length = N + 1 ∧ X ++ [n8] ++ restV Es Us 0 = P) := Lib.hid ⟨by rw [List.length_append, hXl]; rfl, hrs⟩
      clear ho7 hg7 gn8 hrs hXl
      go_upto_region 10 with (first
        | (at_builtin
           refine wl_run (some 55) rfl (by rfl) (exec_append (by rfl) (by rfl) (by rfl) hrun) ?_
           clear hrun))
      clear c0 cb hw8 HXa HOa HX HO HXX hbd
      obtain ⟨N1, gN1⟩ : ∃ z, N + 1 = z := ⟨_, rfl⟩
      rw [gN1] at HO7 HX8 ⊢
      clear gN1
      obtain ⟨X7, gX7⟩ : ∃ z, X ++ [n8] = z := ⟨_, rfl⟩
      rw [gX7] at HO7 HX8
      clear gX7
      have c0 := HX7.out.cell (i := 0) rfl
      go_wp2
      clear c0
      go_loopw [5, 7] (fun v si wr => ∃ (j N : Nat) (A2 : Option Addr) (c2 : Nat) (X : List Nat), j ≤ n ∧ si = .int .i64 j ∧ v = .slice A2 N c2 ∧ RowKit.Hid (Whole wr b0 25 [.slice A n c, .slice B m k]) ∧ RowKit.Hid (Ow w w.heap.size 5 1 (.slice A2 N c2) N (rowsV f8 X) wr) ∧ RowKit.Hid (X.length = N ∧ X ++ restV Es Us j = P)) (fun _ si _ => n - (intOf si).toNat)
      case atStart => exact ⟨0, N1, A7, c7, X7, by omega, rfl, rfl, HX7, HO7, HX8⟩
      case round =>
        clear HX7 HO7 HX8
        obtain ⟨j, N, A2, c2, X, hj_, rfl, rfl, HX, HO, HXX⟩ := hrel
        obtain ⟨wo, gwo⟩ : ∃ z, wr = z := ⟨_, rfl⟩
        rw [gwo] at HX HO ⊢
        clear gwo
        have cb := HX.out.cell (i := 0) rfl
        by_cases hjn : j < n
        · obtain ⟨v, hx⟩ : ∃ v, Vs[j]? = some v := ⟨_, List.getElem?_eq_getElem (by have := Hlv.out; omega)⟩
          have hvm := List.mem_of_getElem? hx
          have hsz := HF.out.size.2 v hvm
          have hrg := HR.out v hvm
          have hr8 := HF.out.ring v hvm
          have hov := HoV.out v hvm
          have hpl : ∀ d ∈ v.2.1.2.2.2, (d.1, d.2.1) ∈ Es.map (·.1) ∧ plE Es (d.1, d.2.1) < m ∧ (d.2.2 = 0 ∨ d.2.2 = 1) := fun d hd => by
            obtain ⟨e, he, q1, q2⟩ := HF.out.of_dart hvm hd
            have h2 := plE_lt HF.out hvm hd
            rw [Hle.out] at h2
            exact ⟨(hov.2.2 d hd).1, h2, q2⟩
          have hrs := HXX.out.2
          rw [restV_next (v := vS v) (by rw [← HUs.out, List.getElem?_map, hx]; rfl), ← List.append_assoc, ← List.append_assoc] at hrs
          obtain ⟨eb, eo, gA, -, -⟩ := HV.out.place vC_len (by decide) (by omega)
          subst gA
          have hel := (HV.out.up HO.out.below HO.out.below.size).elem vC_len hx
          have l0 := hel 0 _ rfl
          have l1 := hel 1 _ rfl
          have l2 := hel 2 _ rfl
          have l3 := hel 3 _ rfl
          have l4 := hel 4 _ rfl
          simp only [Addr.add_lit, Nat.add_zero] at l0 l1 l2 l3 l4
          obtain ⟨⟨i1, i2⟩, ⟨rA, rn, rc, rL⟩, lb, at_⟩ := v
          have HRr : RowKit.Hid (RdS w w.heap.size 3 rA rn rc (dartsV rL)) := Lib.hid hrg.2
          have Hpl : RowKit.Hid (∀ d ∈ rL, (d.1, d.2.1) ∈ Es.map (·.1) ∧ plE Es (d.1, d.2.1) < m ∧ (d.2.2 = 0 ∨ d.2.2 = 1)) := Lib.hid hpl
          have hrl : rL.length = rn := HRr.out.dlen
          have Hrl := Lib.hid hrl
          have hr9 : rn ≤ 80 := by rw [← hrl]; exact hr8
          have hid : mayI i1 i2 = true := hov.1.1
          replace hsz : lb.size ≤ 16 := hsz
          replace hrs : X ++ headB (i1, i2) lb at_ ++ [rL.length % 256] ++ ((rL.drop 0).map (dB Es) ++ restV Es Us (j + 1)) = P := hrs
          rw [hrl] at hrs
          have hbd0 := rest_len HXX.out.2 HP4.out
          rw [HXX.out.1] at hbd0
          obtain ⟨X1, X2, X3, N1, N2, N3, e3, g3, h1, h2, h3⟩ := rhead3 (X := X) (N := N) at_ HXX.out.1 (by omega) hid hsz
          have HC1 := Lib.hid h1
          have HC2 := Lib.hid h2
          have HC3 := Lib.hid h3
          obtain ⟨r8, gr8⟩ : ∃ z, rn % 256 = z := ⟨_, rfl⟩
          have hw8 : IntKind.u8.wrap (rn : Int) = (r8 : Int) := by rw [IntKind.wrap_u8]; omega
          rw [← e3, gr8] at hrs
          have hbd := rest_len hrs HP4.out
          rw [List.length_append, g3, List.length_singleton] at hbd
          have hb2 : N3 + 1 ≤ 4000 := by omega
          have Hrs := Lib.hid hrs
          have Hg3 := Lib.hid g3
          clear hel hsz hrs hx hvm hrg hr8 hpl hrl gr8 hbd hbd0 hov hid h1 h2 h3 e3 g3
          go_upto_region 14 with fail
          clear l0 l1 l2 l3 l4 cb
          have HOa := Lib.hid (Ow.up HO.out (below1 wo (.cells #[.int .i64 i1, .int .i64 i2, .slice rA rn rc, .string lb, .int .i64 at_] 47)))
          have HXa := Lib.hid (HX.out.al (.cells #[.int .i64 i1, .int .i64 i2, .slice rA rn rc, .string lb, .int .i64 at_] 47))
          have HVa := Lib.hid (Whole.new2 (w := wo) (t := 47) (cs := [.int .i64 i1, .int .i64 i2, .slice rA rn rc, .string lb, .int .i64 at_]) rfl)
          obtain ⟨wa, gwa⟩ : ∃ z, wo.alloc (.cells #[.int .i64 i1, .int .i64 i2, .slice rA rn rc, .string lb, .int .i64 at_] 47) = z := ⟨_, rfl⟩
          obtain ⟨b10, gb10⟩ : ∃ z, wo.heap.size = z := ⟨_, rfl⟩
          rw [gwa] at HOa HXa HVa ⊢
          rw [gb10] at HVa ⊢
          clear gwa gb10 HO HX
          have ld0 : ∀ w', Kept Nil_ wa.drew w' → w'.cell? ⟨b10, 0, none⟩ = some (.int .i64 i1) := fun w' h => h.nil_cell (HVa.out.dr.cell (i := 0) rfl)
          have ld1 : ∀ w', Kept Nil_ wa.drew w' → w'.cell? ⟨b10, 1, none⟩ = some (.int .i64 i2) := fun w' h => h.nil_cell (HVa.out.dr.cell (i := 1) rfl)
          have ld2 : ∀ w', Kept Nil_ wa.drew w' → w'.cell? ⟨b10, 3, none⟩ = some (.string lb) := fun w' h => h.nil_cell (HVa.out.dr.cell (i := 3) rfl)
          have ld3 : ∀ w', Kept Nil_ wa.drew w' → w'.cell? ⟨b10, 4, none⟩ = some (.int .i64 at_) := fun w' h => h.nil_cell (HVa.out.dr.cell (i := 4) rfl)
          have hD7 : RowKit.Hid (Ext wa wa.drew) := Lib.hid (below_drewN wa.heap.size wa 1)
          refine wp_region_reg (Nil_) (by kernel_rfl) ?_
          apply wpR_next 0 (some 68)
          · simp only [List.getElem?_toArray, List.getElem?_cons_succ, List.getElem?_cons_zero]; exact rfl
          · rfl
          · kernel_rfl
          · kernel_rfl
          · kernel_rfl
          · exact fun _ _ _ _ h => h
          apply Exists.intro
          apply And.intro
          · apply yr_run; rfl; intro w' hw'; go_simp; (try with_reducible rfl)
          simp only [Act.put, List.setIfInBounds_toArray, List.set_cons_zero, List.set_cons_succ]
          apply wpR_next 1 (some 69)
          · simp only [List.getElem?_toArray, List.getElem?_cons_succ, List.getElem?_cons_zero]; exact rfl
          · rfl
          · kernel_rfl
          · kernel_rfl
          · kernel_rfl
          · exact fun _ _ _ _ h => h
          apply Exists.intro
          apply And.intro
          · apply yr_run; rfl; intro w' hw'; go_simp; (try with_reducible rfl)
          simp only [Act.put, List.setIfInBounds_toArray, List.set_cons_zero, List.set_cons_succ]
          apply wpR_next 2 (some 70)
          · simp only [List.getElem?_toArray, List.getElem?_cons_succ, List.getElem?_cons_zero]; exact rfl
          · rfl
          · kernel_rfl
          · kernel_rfl
          · kernel_rfl
          · exact fun _ _ _ _ h => h
          apply Exists.intro
          apply And.intro
          · apply yr_run; rfl; intro w' hw'; go_simp; (try with_reducible rfl)
          simp only [Act.put, List.setIfInBounds_toArray, List.set_cons_zero, List.set_cons_succ]
          apply wpR_next 4 (some 72)
          · simp only [List.getElem?_toArray, List.getElem?_cons_succ, List.getElem?_cons_zero]; exact rfl
          · rfl
          · kernel_rfl
          · kernel_rfl
          · kernel_rfl
          · exact fun _ _ _ _ h => h
          apply Exists.intro
          apply And.intro
          · apply yr_run; rfl; intro w' hw'; go_simp; (try with_reducible rfl)
          simp only [Act.put, List.setIfInBounds_toArray, List.set_cons_zero, List.set_cons_succ]
          apply wpR_next 5 (some 73)
          · simp only [List.getElem?_toArray, List.getElem?_cons_succ, List.getElem?_cons_zero]; exact rfl
          · rfl
          · kernel_rfl
          · kernel_rfl
          · kernel_rfl
          · exact fun _ _ _ _ h => h
          apply Exists.intro
          apply And.intro
          · apply yr_run; rfl; intro w' hw'; go_simp; (try with_reducible rfl)
          simp only [Act.put, List.setIfInBounds_toArray, List.set_cons_zero, List.set_cons_succ]
          apply wpR_next 7 (some 75)
          · simp only [List.getElem?_toArray, List.getElem?_cons_succ, List.getElem?_cons_zero]; exact rfl
          · rfl
          · kernel_rfl
          · kernel_rfl
          · kernel_rfl
          · exact fun _ _ _ _ h => h
          apply Exists.intro
          apply And.intro
          · apply yr_run; rfl; intro w' hw'; go_simp; (try with_reducible rfl)
          simp only [Act.put, List.setIfInBounds_toArray, List.set_cons_zero, List.set_cons_succ]
          apply wpR_next 8 (some 76)
          · simp only [List.getElem?_toArray, List.getElem?_cons_succ, List.getElem?_cons_zero]; exact rfl
          · rfl
          · kernel_rfl
          · kernel_rfl
          · kernel_rfl
          · exact fun _ _ _ _ h => h
          apply Exists.intro
          apply And.intro
          · apply yr_run; rfl; intro w' hw'; go_simp; (try with_reducible rfl)
          simp only [Act.put, List.setIfInBounds_toArray, List.set_cons_zero, List.set_cons_succ]
          apply wpR_call 3 (some 71)
          · simp only [List.getElem?_toArray, List.getElem?_cons_succ, List.getElem?_cons_zero]; exact rfl
          · rfl
          · kernel_rfl
          · rfl
          · intro w'; go_simp; first | done | exact ⟨rfl, rfl⟩ | with_reducible rfl
          intro w' hw'
          refine (HC1.out _ _ w' ((own_rds HOa.out.own).bl (Ext.trans hD7.out hw'))).mono ?_
          rintro e w9 ⟨A9, c9, rfl, hr9, hb9⟩
          refine ⟨_, rfl, Kept.of_below hb9, ?_⟩
          have HE1 := Lib.hid (Ext.trans (Ext.trans hD7.out hw') hb9)
          have HQ1 := Lib.hid hr9
          clear hr9 hb9 hw' hD7 HC1
          simp only [Act.put, List.setIfInBounds_toArray, List.set_cons_zero, List.set_cons_succ]
          apply wpR_call 6 (some 74)
          · simp only [List.getElem?_toArray, List.getElem?_cons_succ, List.getElem?_cons_zero]; exact rfl
          · rfl
          · kernel_rfl
          · rfl
          · intro w'; go_simp; first | done | exact ⟨rfl, rfl⟩ | with_reducible rfl
          intro w' hw'
          refine (HC2.out A9 c9 w' (HQ1.out.bl hw')).mono ?_
          rintro e w10 ⟨A10, c10, rfl, hr10, hb10⟩
          refine ⟨_, rfl, Kept.of_below hb10, ?_⟩
          have HE2 := Lib.hid (Ext.trans (Ext.trans HE1.out hw') hb10)
          have HQ2 := Lib.hid hr10
          clear hr10 hb10 hw' HE1 HQ1 HC2
          simp only [Act.put, List.setIfInBounds_toArray, List.set_cons_zero, List.set_cons_succ]
          apply wpR_call 9 (some 77)
          · simp only [List.getElem?_toArray, List.getElem?_cons_succ, List.getElem?_cons_zero]; exact rfl
          · rfl
          · kernel_rfl
          · rfl
          · intro w'; go_simp; first | done | exact ⟨rfl, rfl⟩ | with_reducible rfl
          intro w' hw'
          refine (HC3.out A10 c10 w' (HQ2.out.bl hw')).mono ?_
          rintro e w11 ⟨A11, c11, rfl, ho11, hb11⟩
          refine ⟨_, rfl, Kept.of_below hb11, ?_⟩
          have hE9 := Ext.trans HE2.out hw'
          have HE3 := Lib.hid (Ext.trans hE9 hb11)
          have hbl9 := bel_bl HOa.out.below hE9
          have hbl8 := bel_bl HOa.out.below HE3.out
          have HO3 : RowKit.Hid (Ow w w.heap.size 5 1 (.slice A11 N3 c11) N3 (rowsV f8 X3) w11) := Lib.hid ⟨own_lo8 ho11 hbl9.size, hbl8, Nat.le_refl _, hbl8.size⟩
          clear ho11 hb11 hw' hE9 hbl9 hbl8 HE2 HQ2 HC3
          simp only [Act.put, List.setIfInBounds_toArray, List.set_cons_zero, List.set_cons_succ]
          apply wpR_next 10 (some 5)
          · simp only [List.getElem?_toArray, List.getElem?_cons_succ, List.getElem?_cons_zero]; exact rfl
          · rfl
          · kernel_rfl
          · kernel_rfl
          · kernel_rfl
          · exact fun _ _ _ _ h => h
          apply Exists.intro
          apply And.intro
          · apply yr_run; rfl; intro w' hw'; go_simp; (try with_reducible rfl)
          simp only [Act.put, List.setIfInBounds_toArray, List.set_cons_zero, List.set_cons_succ]
          refine wpR_done (by kernel_rfl) ?_ _
          intro w12 hw12
          have HX7 := Lib.hid (HXa.out.bl (Ext.trans HE3.out hw12))
          have HV7 := Lib.hid (HVa.out.bl (Ext.trans HE3.out hw12))
          have HO7 := Lib.hid (Ow.up HO3.out hw12)
          obtain ⟨w7, gw7⟩ : ∃ z, w12 = z := ⟨_, rfl⟩
          rw [gw7] at HX7 HV7 HO7 ⊢
          clear hw12 HE3 HO3 ld0 ld1 ld2 ld3 HXa HVa HOa gw7
          have d2 := HV7.out.cell (i := 2) rfl
          have HXb := Lib.hid (HX7.out.al (.cells #[.int .u8 (r8 : Int)] 5))
          have HVb := Lib.hid (HV7.out.al (.cells #[.int .u8 (r8 : Int)] 5))
          have HOb := Lib.hid (Ow.up HO7.out (below1 w7 (.cells #[.int .u8 (r8 : Int)] 5)))
          obtain ⟨A8, c8, w8, hrun, ho8, hg8⟩ := app8 27 HOb.out (one8 w7 r8) (by omega)
          have HX8 := Lib.hid (HXb.out.grown hg8 (own_ne HOb.out.own HXb.out (by decide)))
          have HV8 := Lib.hid (HVb.out.grown hg8 (own_ne HOb.out.own HVb.out (by decide)))
          have HO8 := Lib.hid ho8
          have HX9 : RowKit.Hid ((X3 ++ [r8]).length = N3 + 1 ∧ X3 ++ [r8] ++ ((rL.drop 0).map (dB Es) ++ restV Es Us (j + 1)) = P) := Lib.hid ⟨by rw [List.length_append, Hg3.out]; rfl, Hrs.out⟩
          clear ho8 hg8
          go_upto_region 16 with (first
            | (at_builtin
               refine wl_run (some 84) rfl (by rfl) (exec_append (by rfl) (by rfl) (by rfl) hrun) ?_
               clear hrun))
          clear d2 hw8 HXb HVb HOb HX7 HV7 HO7 HXX hb2 Hrs Hg3
          obtain ⟨N8, gN8⟩ : ∃ z, N3 + 1 = z := ⟨_, rfl⟩
          rw [gN8] at HO8 HX9 ⊢
          clear gN8
          obtain ⟨X8, gX8⟩ : ∃ z, X3 ++ [r8] = z := ⟨_, rfl⟩
          rw [gX8] at HO8 HX9
          clear gX8
          obtain ⟨R9, gR9⟩ : ∃ z, restV Es Us (j + 1) = z := ⟨_, rfl⟩
          rw [gR9] at HX9
          have HR9 := Lib.hid gR9
          clear gR9
          have d2 := HV8.out.cell (i := 2) rfl
          go_wp2
          clear d2
          go_loopw [5, 9] (fun v si wr => ∃ (t N : Nat) (A2 : Option Addr) (c2 : Nat) (X : List Nat), t ≤ rn ∧ si = .int .i64 t ∧ v = .slice A2 N c2 ∧ RowKit.Hid (Whole wr b0 25 [.slice (some ⟨eb, eo, none⟩) n c, .slice B m k]) ∧ RowKit.Hid (Whole wr b10 47 [.int .i64 i1, .int .i64 i2, .slice rA rn rc, .string lb, .int .i64 at_]) ∧ RowKit.Hid (Ow w w.heap.size 5 1 (.slice A2 N c2) N (rowsV f8 X) wr) ∧ RowKit.Hid (X.length = N ∧ X ++ ((rL.drop t).map (dB Es) ++ R9) = P)) (fun _ si _ => rn - (intOf si).toNat)
          case atStart => exact ⟨0, N8, A8, c8, X8, by omega, rfl, rfl, HX8, HV8, HO8, HX9⟩
          case round =>
            clear HX8 HV8 HO8 HX9
            obtain ⟨t, N, A2, c2, X, ht_, rfl, rfl, HX, HVv, HO, HXX⟩ := hrel
            obtain ⟨wi, gwi⟩ : ∃ z, wr = z := ⟨_, rfl⟩
            rw [gwi] at HX HVv HO ⊢
            clear gwi
            have d2 := HVv.out.cell (i := 2) rfl
            by_cases htn : t < rn
            · obtain ⟨d, hx⟩ : ∃ d, rL[t]? = some d := ⟨_, List.getElem?_eq_getElem (by have := Hrl.out; omega)⟩
              obtain ⟨hp1, hp2, hp3⟩ := Hpl.out d (List.mem_of_getElem? hx)
              have hrs := HXX.out.2
              have hdr : rL.drop t = d :: rL.drop (t + 1) := by
                rw [List.drop_eq_getElem_cons (List.getElem?_eq_some_iff.1 hx).1, (List.getElem?_eq_some_iff.1 hx).2]
              rw [hdr, List.map_cons, List.cons_append, show ∀ (a : Nat) (l : List Nat), a :: l = [a] ++ l from fun _ _ => rfl, ← List.append_assoc] at hrs
              obtain ⟨rb, ro, gr, hrb, hcd⟩ := (HRr.out.up HO.out.below HO.out.below.size).darts (by omega)
              subst gr
              have hjl : t < rL.length := by have := Hrl.out; omega
              obtain ⟨l0, l1, l2⟩ := hcd t hjl
              have hgd : rL.getD t (0, 0, 0) = d := by rw [List.getD_eq_getElem?_getD, hx]; rfl
              rw [hgd] at l0 l1 l2
              obtain ⟨d1, d2_, d3⟩ := d
              simp only at hp1 hp2 hp3 l0 l1 l2
              have hpp := rplF_pl hp1
              obtain ⟨p, gp⟩ : ∃ z, plE Es (d1, d2_) = z := ⟨_, rfl⟩
              have hdb : dB Es (d1, d2_, d3) = (p + 128 * d3.toNat) % 256 := by unfold dB; rw [gp]
              rw [gp] at hp2 hpp
              have HPl : RowKit.Hid (∀ W, RdS W W.heap.size 4 B m k (rowsV eC Es) → Calls Tryz.prog 19 #[.agg #[.slice (some ⟨eb, eo, none⟩) n c, .slice B m k], .agg #[.int .i64 d1, .int .i64 d2_]] W fun e w' => e = .returned (.int .i64 (p : Int)) ∧ Below W.heap.size W w') := Lib.hid (fun W h => by
                have h9 := rplace8_any (some ⟨eb, eo, none⟩) n c B m k Es d1 d2_ W h (by omega)
                rw [hpp] at h9
                exact h9)
              obtain ⟨db, gdb⟩ : ∃ z, dB Es (d1, d2_, d3) = z := ⟨_, rfl⟩
              rw [gdb] at hrs hdb
              obtain ⟨x1, hw1⟩ : ∃ z, IntKind.i64.wrap (128 * d3) = z := ⟨_, rfl⟩
              have hx1 : x1 = 128 * d3 := by rw [← hw1]; exact IntWalk.i64_in _ (by omega)
              obtain ⟨x2, hw2⟩ : ∃ z, IntKind.i64.wrap ((p : Int) + x1) = z := ⟨_, rfl⟩
              have hx2 : x2 = (p : Int) + 128 * d3 := by rw [← hw2, hx1]; exact IntWalk.i64_in _ (by omega)
              have hw3 : IntKind.u8.wrap x2 = (db : Int) := by rw [hx2, hdb, IntKind.wrap_u8]; omega
              have hXl := HXX.out.1
              have hbd := rest_len hrs HP4.out
              rw [List.length_append, hXl, List.length_singleton] at hbd
              have hb1 : N + 1 ≤ 4000 := by omega
              have Hrs := Lib.hid hrs
              clear hx hp1 hp3 hrs hdr hcd hjl hgd gp hdb gdb hx1 hx2 hbd hpp
              go_upto_region 19 with fail
              clear d2
              have Hs1 : RowKit.Hid (¬ (some b10 = (Value.slice A2 N c2).ownBlock ∨ wi.heap.size ≤ b10)) := Lib.hid (fun e => by rcases e with e | e; exact own_ne HO.out.own HVv.out (by decide) e; exact absurd HVv.out.lt (by omega))
              have Hs2 : RowKit.Hid (¬ (some b0 = (Value.slice A2 N c2).ownBlock ∨ wi.heap.size ≤ b0)) := Lib.hid (fun e => by rcases e with e | e; exact own_ne HO.out.own HX.out (by decide) e; exact absurd HX.out.lt (by omega))
              have Hs3 : RowKit.Hid (¬ (some rb = (Value.slice A2 N c2).ownBlock ∨ wi.heap.size ≤ rb)) := Lib.hid (fun e => by
                have hb9 : rb < w.heap.size := HRr.out.low ⟨rb, ro, none⟩ rfl (by omega)
                have hb8 := HO.out.below.size
                rcases e with e | e
                · have := (HO.out.own.lt rb e.symm).1; omega
                · omega)
              have ld0 : ∀ w', Kept (fun i => some i = (Value.slice A2 N c2).ownBlock ∨ wi.heap.size ≤ i) wi.drew w' → w'.cell? ⟨b10, 2, none⟩ = some (.slice (some ⟨rb, ro, none⟩) rn rc) := fun w' h => h.cell (HVv.out.dr.cell (i := 2) rfl) Hs1.out
              have ld1 : ∀ w', Kept (fun i => some i = (Value.slice A2 N c2).ownBlock ∨ wi.heap.size ≤ i) wi.drew w' → w'.cell? ⟨b0, 0, none⟩ = some (.slice (some ⟨eb, eo, none⟩) n c) := fun w' h => h.cell (HX.out.dr.cell (i := 0) rfl) Hs2.out
              have ld2 : ∀ w', Kept (fun i => some i = (Value.slice A2 N c2).ownBlock ∨ wi.heap.size ≤ i) wi.drew w' → w'.cell? ⟨b0, 1, none⟩ = some (.slice B m k) := fun w' h => h.cell (HX.out.dr.cell (i := 1) rfl) Hs2.out
              have ld3 : ∀ w', Kept (fun i => some i = (Value.slice A2 N c2).ownBlock ∨ wi.heap.size ≤ i) wi.drew w' → w'.cell? ⟨rb, ro + t * 3, none⟩ = some (.int .i64 d1) := fun w' h => h.cell (show wi.drew.cell? _ = _ from l0) Hs3.out
              have ld4 : ∀ w', Kept (fun i => some i = (Value.slice A2 N c2).ownBlock ∨ wi.heap.size ≤ i) wi.drew w' → w'.cell? ⟨rb, ro + t * 3 + 1, none⟩ = some (.int .i64 d2_) := fun w' h => h.cell (show wi.drew.cell? _ = _ from l1) Hs3.out
              have ld5 : ∀ w', Kept (fun i => some i = (Value.slice A2 N c2).ownBlock ∨ wi.heap.size ≤ i) wi.drew w' → w'.cell? ⟨rb, ro + t * 3 + 2, none⟩ = some (.int .i64 d3) := fun w' h => h.cell (show wi.drew.cell? _ = _ from l2) Hs3.out
              have HDr : RowKit.Hid (Ext wi wi.drew) := Lib.hid (below_drewN wi.heap.size wi 1)
              clear l0 l1 l2 hrb
              refine wp_region_reg (fun i => some i = (Value.slice A2 N c2).ownBlock ∨ wi.heap.size ≤ i) (by kernel_rfl) ?_
              apply wpR_next 0 (some 92)
              · simp only [List.getElem?_toArray, List.getElem?_cons_succ, List.getElem?_cons_zero]; exact rfl
              · rfl
              · kernel_rfl
              · kernel_rfl
              · kernel_rfl
              · exact fun _ _ _ _ h => h
              apply Exists.intro
              apply And.intro
              · apply yr_run; rfl; intro w' hw'; go_simp; (try with_reducible rfl)
              simp only [Act.put, List.setIfInBounds_toArray, List.set_cons_zero, List.set_cons_succ]
              apply wpR_next 1 (some 93)
              · simp only [List.getElem?_toArray, List.getElem?_cons_succ, List.getElem?_cons_zero]; exact rfl
              · rfl
              · kernel_rfl
              · kernel_rfl
              · kernel_rfl
              · exact fun _ _ _ _ h => h
              apply Exists.intro
              apply And.intro
              · apply yr_run; rfl; intro w' hw'; go_simp; (try with_reducible rfl)
              simp only [Act.put, List.setIfInBounds_toArray, List.set_cons_zero, List.set_cons_succ]
              apply wpR_next 2 (some 94)
              · simp only [List.getElem?_toArray, List.getElem?_cons_succ, List.getElem?_cons_zero]; exact rfl
              · rfl
              · kernel_rfl
              · kernel_rfl
              · kernel_rfl
              · exact fun _ _ _ _ h => h
              apply Exists.intro
              apply And.intro
              · apply yr_run; rfl; intro w' hw'; go_simp; (try with_reducible rfl)
              simp only [Act.put, List.setIfInBounds_toArray, List.set_cons_zero, List.set_cons_succ]
              apply wpR_next 3 (some 95)
              · simp only [List.getElem?_toArray, List.getElem?_cons_succ, List.getElem?_cons_zero]; exact rfl
              · rfl
              · kernel_rfl
              · kernel_rfl
              · kernel_rfl
              · exact fun _ _ _ _ h => h
              apply Exists.intro
              apply And.intro
              · apply yr_run; rfl; intro w' hw'; go_simp; (try with_reducible rfl)
              simp only [Act.put, List.setIfInBounds_toArray, List.set_cons_zero, List.set_cons_succ]
              apply wpR_next 4 (some 96)
              · simp only [List.getElem?_toArray, List.getElem?_cons_succ, List.getElem?_cons_zero]; exact rfl
              · rfl
              · kernel_rfl
              · kernel_rfl
              · kernel_rfl
              · exact fun _ _ _ _ h => h
              apply Exists.intro
              apply And.intro
              · apply yr_run; rfl; intro w' hw'; go_simp; (try with_reducible rfl)
              simp only [Act.put, List.setIfInBounds_toArray, List.set_cons_zero, List.set_cons_succ]
              apply wpR_next 5 (some 97)
              · simp only [List.getElem?_toArray, List.getElem?_cons_succ, List.getElem?_cons_zero]; exact rfl
              · rfl
              · kernel_rfl
              · kernel_rfl
              · kernel_rfl
              · exact fun _ _ _ _ h => h
              apply Exists.intro
              apply And.intro
              · apply yr_run; rfl; intro w' hw'; go_simp; (try with_reducible rfl)
              simp only [Act.put, List.setIfInBounds_toArray, List.set_cons_zero, List.set_cons_succ]
              apply wpR_next 6 (some 98)
              · simp only [List.getElem?_toArray, List.getElem?_cons_succ, List.getElem?_cons_zero]; exact rfl
              · rfl
              · kernel_rfl
              · kernel_rfl
              · kernel_rfl
              · exact fun _ _ _ _ h => h
              apply Exists.intro
              apply And.intro
              · apply yr_run; rfl; intro w' hw'; go_simp; (try with_reducible rfl)
              simp only [Act.put, List.setIfInBounds_toArray, List.set_cons_zero, List.set_cons_succ]
              apply wpR_next 7 (some 99)
              · simp only [List.getElem?_toArray, List.getElem?_cons_succ, List.getElem?_cons_zero]; exact rfl
              · rfl
              · kernel_rfl
              · kernel_rfl
              · kernel_rfl
              · exact fun _ _ _ _ h => h
              apply Exists.intro
              apply And.intro
              · apply yr_run; rfl; intro w' hw'; go_simp; (try with_reducible rfl)
              simp only [Act.put, List.setIfInBounds_toArray, List.set_cons_zero, List.set_cons_succ]
              apply wpR_next 9 (some 101)
              · simp only [List.getElem?_toArray, List.getElem?_cons_succ, List.getElem?_cons_zero]; exact rfl
              · rfl
              · kernel_rfl
              · kernel_rfl
              · kernel_rfl
              · exact fun _ _ _ _ h => h
              apply Exists.intro
              apply And.intro
              · apply yr_run; rfl; intro w' hw'; go_simp; (try with_reducible rfl)
              simp only [Act.put, List.setIfInBounds_toArray, List.set_cons_zero, List.set_cons_succ]
              apply wpR_next 10 (some 102)
              · simp only [List.getElem?_toArray, List.getElem?_cons_succ, List.getElem?_cons_zero]; exact rfl
              · rfl
              · kernel_rfl
              · kernel_rfl
              · kernel_rfl
              · exact fun _ _ _ _ h => h
              apply Exists.intro
              apply And.intro
              · apply yr_run; rfl; intro w' hw'; go_simp; (try with_reducible rfl)
              simp only [Act.put, List.setIfInBounds_toArray, List.set_cons_zero, List.set_cons_succ]
              apply wpR_next 11 (some 103)
              · simp only [List.getElem?_toArray, List.getElem?_cons_succ, List.getElem?_cons_zero]; exact rfl
              · rfl
              · kernel_rfl
              · kernel_rfl
              · kernel_rfl
              · exact fun _ _ _ _ h => h
              apply Exists.intro
              apply And.intro
              · apply yr_run; rfl; intro w' hw'; go_simp; (try with_reducible rfl)
              simp only [Act.put, List.setIfInBounds_toArray, List.set_cons_zero, List.set_cons_succ]
              apply wpR_next 12 (some 104)
              · simp only [List.getElem?_toArray, List.getElem?_cons_succ, List.getElem?_cons_zero]; exact rfl
              · rfl
              · kernel_rfl
              · kernel_rfl
              · kernel_rfl
              · exact fun _ _ _ _ h => h
              apply Exists.intro
              apply And.intro
              · apply yr_run; rfl; intro w' hw'; go_simp; (try with_reducible rfl)
              simp only [Act.put, List.setIfInBounds_toArray, List.set_cons_zero, List.set_cons_succ]
              apply wpR_next 13 (some 105)
              · simp only [List.getElem?_toArray, List.getElem?_cons_succ, List.getElem?_cons_zero]; exact rfl
              · rfl
              · kernel_rfl
              · kernel_rfl
              · kernel_rfl
              · exact fun _ _ _ _ h => h
              apply Exists.intro
              apply And.intro
              · apply yr_run; rfl; intro w' hw'; go_simp; (try with_reducible rfl)
              simp only [Act.put, List.setIfInBounds_toArray, List.set_cons_zero, List.set_cons_succ]
              apply wpR_next 14 (some 106)
              · simp only [List.getElem?_toArray, List.getElem?_cons_succ, List.getElem?_cons_zero]; exact rfl
              · rfl
              · kernel_rfl
              · kernel_rfl
              · kernel_rfl
              · exact fun _ _ _ _ h => h
              apply Exists.intro
              apply And.intro
              · apply yr_run; rfl; intro w' hw'; go_simp; (try with_reducible rfl)
              simp only [Act.put, List.setIfInBounds_toArray, List.set_cons_zero, List.set_cons_succ]
              apply wpR_next 15 (some 107)
              · simp only [List.getElem?_toArray, List.getElem?_cons_succ, List.getElem?_cons_zero]; exact rfl
              · rfl
              · kernel_rfl
              · kernel_rfl
              · kernel_rfl
              · exact fun _ _ _ _ h => h
              apply Exists.intro
              apply And.intro
              · apply yr_run; rfl; intro w' hw'; go_simp; (try with_reducible rfl)
              simp only [Act.put, List.setIfInBounds_toArray, List.set_cons_zero, List.set_cons_succ]
              apply wpR_call 8 (some 100)
              · simp only [List.getElem?_toArray, List.getElem?_cons_succ, List.getElem?_cons_zero]; exact rfl
              · rfl
              · kernel_rfl
              · rfl
              · intro w'; go_simp; first | done | exact ⟨rfl, rfl⟩ | with_reducible rfl
              intro w' hw'
              refine (HPl.out w' ((HE.out.up HO.out.below HO.out.below.size).bl (Ext.trans HDr.out hw'))).mono ?_
              rintro e w9 ⟨rfl, hb9⟩
              refine ⟨_, rfl, Kept.of_below hb9, ?_⟩
              have HE9 := Lib.hid (Ext.trans (Ext.trans HDr.out hw') hb9)
              clear hb9 hw' 
              simp only [Act.put, List.setIfInBounds_toArray, List.set_cons_zero, List.set_cons_succ]
              apply wpR_next 16 (some 108)
              · simp only [List.getElem?_toArray, List.getElem?_cons_succ, List.getElem?_cons_zero]; exact rfl
              · rfl
              · kernel_rfl
              · kernel_rfl
              · kernel_rfl
              · exact fun _ _ _ _ h => h
              apply Exists.intro
              apply And.intro
              · apply yr_run; rfl; intro w' hw'; go_simp; (try with_reducible rfl)
              simp only [Act.put, List.setIfInBounds_toArray, List.set_cons_zero, List.set_cons_succ]
              apply wpR_next 17 (some 109)
              · simp only [List.getElem?_toArray, List.getElem?_cons_succ, List.getElem?_cons_zero]; exact rfl
              · rfl
              · kernel_rfl
              · kernel_rfl
              · kernel_rfl
              · exact fun _ _ _ _ h => h
              apply Exists.intro
              apply And.intro
              · apply yr_run; rfl; intro w' hw'; go_simp; (try with_reducible rfl)
              simp only [Act.put, List.setIfInBounds_toArray, List.set_cons_zero, List.set_cons_succ]
              apply wpR_run 18 (some 110)
              · simp only [List.getElem?_toArray, List.getElem?_cons_succ, List.getElem?_cons_zero]; exact rfl
              · rfl
              · kernel_rfl
              · rfl
              intro w' hw'
              refine ⟨.slice (some ⟨w'.heap.size, 0, none⟩) 1 1, w'.alloc (.cells #[.int .u8 (db : Int)] 5), by (go_simp; first | done | exact rfl | exact ⟨rfl, rfl⟩), Kept.of_below (below1 _ _), ?_⟩
              have hE0 := Ext.trans HE9.out hw'
              have HXb := Lib.hid ((HX.out.bl hE0).al (.cells #[.int .u8 (db : Int)] 5))
              have HVb := Lib.hid ((HVv.out.bl hE0).al (.cells #[.int .u8 (db : Int)] 5))
              have HOb := Lib.hid (Ow.up (Ow.up HO.out hE0) (below1 w' (.cells #[.int .u8 (db : Int)] 5)))
              have HSb := Lib.hid (one8 w' db)
              obtain ⟨wb, gwb⟩ : ∃ z, w'.alloc (.cells #[.int .u8 (db : Int)] 5) = z := ⟨_, rfl⟩
              obtain ⟨ab, gab⟩ : ∃ z, w'.heap.size = z := ⟨_, rfl⟩
              rw [gwb] at HXb HVb HOb HSb ⊢
              rw [gab] at HSb ⊢
              clear gwb gab hE0 hw' HX HVv HO ld0 ld1 ld2 ld3 ld4 ld5
              simp only [Act.put, List.setIfInBounds_toArray, List.set_cons_zero, List.set_cons_succ]
              apply wpR_run 19 (some 111)
              · simp only [List.getElem?_toArray, List.getElem?_cons_succ, List.getElem?_cons_zero]; exact rfl
              · rfl
              · kernel_rfl
              · rfl
              intro w' hw'
              obtain ⟨A7, c7, w7, hrun, ho7, hg7⟩ := app8 27 (Ow.up HOb.out hw') (HSb.out.bl hw') (by omega)
              refine ⟨_, w7, exec_append (by rfl) (by rfl) (by rfl) hrun, kept_own hg7 (fun i e => .inl e), ?_⟩
              have HX7 := Lib.hid ((HXb.out.bl hw').grown hg7 (own_ne (own_up HOb.out.own hw') (HXb.out.bl hw') (by decide)))
              have HV7 := Lib.hid ((HVb.out.bl hw').grown hg7 (own_ne (own_up HOb.out.own hw') (HVb.out.bl hw') (by decide)))
              have HO7 := Lib.hid ho7
              clear hrun ho7 hg7 hw' HXb HVb HOb HSb
              simp only [Act.put, List.setIfInBounds_toArray, List.set_cons_zero, List.set_cons_succ]
              apply wpR_next 20 (some 5)
              · simp only [List.getElem?_toArray, List.getElem?_cons_succ, List.getElem?_cons_zero]; exact rfl
              · rfl
              · kernel_rfl
              · kernel_rfl
              · kernel_rfl
              · exact fun _ _ _ _ h => h
              apply Exists.intro
              apply And.intro
              · apply yr_run; rfl; intro w' hw'; go_simp; (try with_reducible rfl)
              simp only [Act.put, List.setIfInBounds_toArray, List.set_cons_zero, List.set_cons_succ]
              refine wpR_done (by kernel_rfl) ?_ _
              intro w9 hw9
              have HX9 := Lib.hid (HX7.out.bl hw9)
              have HV9 := Lib.hid (HV7.out.bl hw9)
              have HO9 := Lib.hid (Ow.up HO7.out hw9)
              clear hw9 HX7 HV7 HO7
              go_wp2
              go_roundw
              case rel => exact ⟨t + 1, N + 1, A7, c7, X ++ [db], by omega, by go_num, rfl, HX9, HV9, HO9, Lib.hid ⟨by rw [List.length_append, hXl]; rfl, Hrs.out⟩⟩
              case measure => simp [intOf] <;> omega
            · obtain rfl : rn = t := by omega
              have hrs := HXX.out.2
              rw [List.drop_eq_nil_of_le (by have := Hrl.out; omega), List.map_nil, List.nil_append, ← HR9.out] at hrs
              go_wp2
              go_roundw
              case rel => exact ⟨j + 1, N, A2, c2, X, by omega, by go_num, rfl, HX, HO, Lib.hid ⟨HXX.out.1, hrs⟩⟩
              case measure => simp [intOf] <;> omega
        · obtain rfl : n = j := by omega
          have hrs := HXX.out.2
          unfold restV at hrs
          rw [List.drop_eq_nil_of_le (by have := HUl.out; omega), List.flatMap_nil, List.append_nil] at hrs
          obtain rfl := hrs
          obtain rfl : X.length = N := HXX.out.1
          go_wp2
          exact bodyPost_ret (v := .tuple #[.slice A2 X.length c2, .int .i64 0]) (by simp [results, Tryz.results8, go_sem]) rfl ⟨A2, c2, rfl, HO.out.own, HO.out.below⟩
end Go.Proofs.YtahbfdhjgnlmdaaGreat

/- PackPuts' walk. -/
namespace Go.Proofs.YtahbfdhjgnlmdaaGreat
open Go.RowKit
set_option linter.unusedSimpArgs false
set_option linter.unusedVariables false

theorem rput8_any (A : Option Addr) (n c : Nat) (Vs : List VC) (B : Option Addr) (m k : Nat) (Es : List EC) (w : World) (h : DgIn w A n c Vs B m k Es) (hg : GoodD Vs Es) (hr : ∀ x ∈ Vs, x.2.1.2.1 ≤ 1000000) :
    Calls Tryz.prog 8 #[.agg #[.slice A n c, .slice B m k]] w fun e w' => ∃ A' c', e = .returned (.tuple #[.slice A' (pb Vs Es).length c', .int .i64 (mayF7 Vs Es)]) ∧ w'.ownsRow w.heap.size 5 1 (.slice A' (pb Vs Es).length c') (pb Vs Es).length (rowsV f8 (pb Vs Es)) ∧ Below w.heap.size w w' := by
  by_cases hm : mayF7 Vs Es = 0
  · have h9 := rput_yes A n c Vs B m k Es w h hg hr hm
    unfold pb
    rw [if_pos hm, hm]
    exact h9
  · refine (rput_not A n c Vs B m k Es w h hg hr hm).mono ?_
    rintro e w' ⟨rfl, hb⟩
    unfold pb
    rw [if_neg hm]
    exact ⟨none, 0, rfl, World.ownsRow_nil w' w.heap.size 5 1, hb⟩
set_option maxRecDepth 100000 in
set_option maxHeartbeats 4000000 in
theorem law_puts (A : Option Addr) (n c : Nat) (Vs : List VC) (B : Option Addr) (m k : Nat) (Es : List EC) (w : World) (h : DgIn w A n c Vs B m k Es) (hg : GoodD Vs Es) (hn : n ≤ maxLen) (hm : m ≤ maxLen) :
    Calls Tryz.prog 3 #[.agg #[.slice A n c, .slice B m k]] w fun e w' => e = .returned (.bool true) ∧ Below w.heap.size w w' := by
  have HF := Lib.hid (fun W hb => few8_step h hg hn hm W hb)
  obtain ⟨Va, gVa⟩ : ∃ z, (Vs.take 26).map few7V = z := ⟨_, rfl⟩
  obtain ⟨Ea, gEa⟩ : ∃ z, Es.take 42 = z := ⟨_, rfl⟩
  rw [gVa, gEa] at HF
  have HP1 := Lib.hid (fun A n c B m k W h => put8_any A n c Va B m k Ea W h)
  have HP2 := Lib.hid (fun A n c B m k W h => rput8_any A n c Va B m k Ea W h)
  obtain ⟨P, gP⟩ : ∃ z, pb Va Ea = z := ⟨_, rfl⟩
  obtain ⟨ea, gea⟩ : ∃ z, mayF7 Va Ea = z := ⟨_, rfl⟩
  rw [gP, gea] at HP1 HP2
  obtain ⟨la, gla⟩ : ∃ z, P.length = z := ⟨_, rfl⟩
  rw [gla] at HP1 HP2
  obtain ⟨t1, gt1⟩ : ∃ z, txt P = z := ⟨_, rfl⟩
  have HV1 : RowKit.Hid (∀ (A : Option Addr) (c : Nat) W, RdS W W.heap.size 1 A la c (rowsV f8 P) → (convert 27 9 (.slice A la c)).run Tryz.prog W = .ok (.string t1) W) := Lib.hid (fun A c W h => gt1 ▸ conv_txt h)
  have htt : (t1.toList == t1.toList) = true := by simp
  have hee : (ea == ea) = true := by simp
  clear h hg hn hm gVa gEa gP gea gla gt1
  go_enter Tryz.func3, Tryz.ntmps3
  go_upto_region 1 with fail
  have HX0 : RowKit.Hid (Whole (w.alloc (.cells #[.slice A n c, .slice B m k] 25)) w.heap.size 25 [.slice A n c, .slice B m k]) := Lib.hid (Whole.new_ _ _ [_, _])
  have HB0 : RowKit.Hid (Below w.heap.size w (w.alloc (.cells #[.slice A n c, .slice B m k] 25))) := Lib.hid (below1 w _)
  obtain ⟨w0, gw0⟩ : ∃ z, w.alloc (.cells #[.slice A n c, .slice B m k] 25) = z := ⟨_, rfl⟩
  obtain ⟨b, gb⟩ : ∃ z, w.heap.size = z := ⟨_, rfl⟩
  rw [gw0] at HX0 HB0 ⊢
  rw [gb] at HX0 ⊢
  clear gw0 gb
  go_upto_region 2 with (first
    | (go_at_call 5
       refine (shown08_any _).mono ?_
       rintro e w1 ⟨rfl, hb1⟩
       have HX1 := Lib.hid (HX0.out.bl hb1)
       have HB1 := Lib.hid (bel_bl HB0.out hb1)
       clear hb1))
  clear HX0 HB0
  have c0 := HX1.out.cell (i := 0) rfl
  have c1 := HX1.out.cell (i := 1) rfl
  go_upto_region 3 with (first
    | (go_at_call 7
       refine (HF.out _ HB1.out).mono ?_
       rintro e w2 ⟨Aa, na, ca, Ba, ma, ka, rfl, hF, hb2⟩
       have HF2 := Lib.hid hF
       have HX2 := Lib.hid (HX1.out.bl hb2)
       have HB2 := Lib.hid (bel_bl HB1.out hb2)
       clear hF hb2 c0 c1)
    | (go_at_call 6
       refine (HP1.out _ _ _ _ _ _ _ HF2.out.dg HF2.out.good (fun x hx => by have := HF2.out.r30 x hx; omega)).mono ?_
       rintro e w3 ⟨A3, c3, rfl, ho3, hb3⟩
       have HX3 := Lib.hid (HX2.out.bl hb3)
       have HB3 := Lib.hid (bel_bl HB2.out hb3)
       have HQ3 := Lib.hid (own_rds ho3)
       clear ho3 hb3))
  clear HX1 HB1 HX2 HB2 HF2 HP1
  have c0 := HX3.out.cell (i := 0) rfl
  have c1 := HX3.out.cell (i := 1) rfl
  go_upto_region 4 with (first
    | (go_at_call 7
       refine (HF.out _ HB3.out).mono ?_
       rintro e w4 ⟨Ab, nb, cb, Bb, mb, kb, rfl, hF, hb4⟩
       have HF4 := Lib.hid hF
       have HB4 := Lib.hid (bel_bl HB3.out hb4)
       have HQ4 := Lib.hid (HQ3.out.bl hb4)
       clear hF hb4 c0 c1)
    | (go_at_call 8
       refine (HP2.out _ _ _ _ _ _ _ HF4.out.dg HF4.out.good (fun x hx => by have := HF4.out.r30 x hx; omega)).mono ?_
       rintro e w5 ⟨A5, c5, rfl, ho5, hb5⟩
       have HB5 := Lib.hid (bel_bl HB4.out hb5)
       have HQ5 := Lib.hid (HQ4.out.bl hb5)
       have HU5 := Lib.hid (own_rds ho5)
       clear ho5 hb5))
  clear HX3 HB3 HQ3 HB4 HQ4 HF4 HP2 HF
  have v1 := HV1.out _ _ _ HQ5.out
  have v2 := HV1.out _ _ _ HU5.out
  go_wp2
  go_ret
  exact ⟨by first | rfl | simp, HB5.out⟩

end Go.Proofs.YtahbfdhjgnlmdaaGreat

/- 'PackPuts' answers true for every diagram.
   No condition beyond the row's own. -/
namespace Go.Proofs.YtahbfdhjgnlmdaaGreat
open Go.ChangeShapes Go.WideShapes Go.ChangeAt Go.RowKit
namespace lawPackPuts

set_option maxRecDepth 100000 in
theorem contract (H : Type) (enc : TypeId × Value → H) (W : World) (base : Nat) (args : Array Value) (ds gs : List (DataW H)) (before : List MemPlace)
    (hval : ∀ (j : Nat) t v, Tryz.f3.params[j]? = some t → args[j]? = some v → Value.okWide Tryz.prog W .any base t v)
    (hW : DataW.Whole enc Tryz.prog Tryz.f3.params.toList Rows.packPutsSpec.vars false W args.toList ds gs before) :
    Calls Tryz.prog 3 args W fun e W' => ∃ v, e = .returned v ∧ Rows.packPutsSpec.post enc Tryz.prog Tryz.f3 false true false false W args v W' := by
  have hW' := hW
  obtain ⟨p, q, hA, hV, rfl, hfz, hnd⟩ := hW
  obtain ⟨rfl, rfl⟩ := trodVars_none hV
  rw [Tryz.params3] at hA hval
  obtain ⟨v0, d0, rfl, rfl, h0⟩ := trodAll_one hA
  obtain ⟨d, rfl, hx0⟩ := open_row1_struct (row1_diagram H) Tryz.underlying25 (hval 0 25 v0 rfl rfl) h0
  refine (law_puts d.1.1 d.1.2.1 d.1.2.2.1 d.1.2.2.2 d.2.1 d.2.2.1 d.2.2.2.1 d.2.2.2.2 W hx0.dg hx0.good hx0.max.1 hx0.max.2).mono fun e W' ⟨he, hb⟩ => ⟨_, he, ?_⟩
  exact law_post Tryz.laidOut (by kernel_rfl) (tb := 4) (by kernel_rfl) Tryz.underlying4 rfl ⟨rfl, rfl, rfl⟩ hW' hb

set_option maxRecDepth 100000 in
theorem lifted (os : Os) (started : os.Started) (H : Type) (enc : TypeId × Value → H) :
    ReturnsInHanded {} Tryz.checked os 3 .any (Rows.packPutsSpec.pre6 enc Tryz.prog Tryz.f3 Rows.packPutsRow.domain false) (Rows.packPutsSpec.post enc Tryz.prog Tryz.f3 false true false false) := by
  refine returnsInHanded_of_change (C := Tryz.checked) Tryz.own started (by kernel_rfl) Tryz.func3
    (ChangeSpec.witness6 (enc := enc) (C := Tryz.checked) false ⟨#[], #[.agg #[.slice none 0 0, .slice none 0 0]], []⟩ 8 (by kernel_rfl) (by kernel_rfl) (by kernel_rfl) (by kernel_rfl)) ?_
  intro W base args ds gs before hval hW _ _
  exact contract H enc W base args ds gs before hval hW

theorem proved : Rows.PackPutsSaid :=
  OpenClaim.holds_of_wide 3 Tryz.f3 rfl rfl rfl rfl rfl rfl rfl ⟨rfl, rfl, rfl, rfl, rfl⟩ rfl rfl rfl rfl rfl (by kernel_rfl) Tryz.func3 (by kernel_rfl)
    (of_decide_eq_true (by kernel_rfl)) (by unfold Func.isWrapper; first | (rw [if_pos (by decide +kernel)]; kernel_rfl) | (rw [if_neg (by decide +kernel)]; exact ⟨rfl, rfl⟩))
    (fun os started H enc _ => lifted os started H enc)
end lawPackPuts
end Go.Proofs.YtahbfdhjgnlmdaaGreat
