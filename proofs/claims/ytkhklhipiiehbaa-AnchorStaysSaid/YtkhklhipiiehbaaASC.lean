/- Several texts in one. -/
import Derived.Test.YtkhklhipiiehbaaASB
import Derived.Test.YtkhklhipiiehbaaASA
import Derived.Shelf.Spec.SlicesInsert

/- The law's rising: those of a row that rise by darts. -/
namespace Go.Proofs.Ytkhklhipiiehbaa
open Go.RowKit
set_option linter.unusedSimpArgs false
set_option linter.unusedVariables false

def ordG (y x : Gn) : Int := ordD y.1.1 y.1.2.1 y.1.2.2 x.1.1 x.1.2.1 x.1.2.2
def risOk (T : List Gn) (x : Gn) : Bool := match T.getLast? with | none => true | some y => decide (ordG y x < 0)
def risA (T : List Gn) : List Gn → List Gn
  | [] => T
  | x :: l => risA (if risOk T x = true then T ++ [x] else T) l
def risG (G : List Gn) : List Gn := risA [] G
theorem risA_len : ∀ (G T : List Gn), (risA T G).length ≤ T.length + G.length
  | [], T => Nat.le_refl _
  | x :: G, T => by
    have h := risA_len G (if risOk T x = true then T ++ [x] else T)
    have h2 : (if risOk T x = true then T ++ [x] else T).length ≤ T.length + 1 := by split <;> simp
    show (risA _ G).length ≤ T.length + (G.length + 1)
    omega
theorem risOk_nil (x : Gn) : risOk [] x = true := rfl
theorem risOk_last {T : List Gn} {t : Nat} {y x : Gn} (hy : T[t]? = some y) (ht : T.length = t + 1) : risOk T x = decide (ordG y x < 0) := by
  have e : T.getLast? = some y := by rw [List.getLast?_eq_getElem?, ht]; exact hy
  unfold risOk
  rw [e]
set_option maxRecDepth 100000 in
set_option maxHeartbeats 4000000 in
theorem rising_any (C : Option Addr) (g gc : Nat) (G : List Gn) (w : World) (hg : RdS w w.heap.size 6 C g gc (rowsV gnC G)) (hgl : g ≤ 1000000) :
    Calls Try.prog 9 #[.slice C g gc] w fun e w' => ∃ C' g', e = .returned (.slice C' (risG G).length g') ∧ RdS w' w'.heap.size 6 C' (risG G).length g' (rowsV gnC (risG G)) ∧ Below w.heap.size w w' ∧ (∀ a, C' = some a → 0 < (risG G).length → w.heap.size ≤ a.block) := by
  have HGn := Lib.hid hg
  have HGnl := Lib.hid (hg.rlen gnC_len (by decide))
  obtain ⟨iG, hiG, z0iG, z1iG, z2iG⟩ := info_partsD info_gone
  obtain ⟨R, gR⟩ : ∃ z, risG G = z := ⟨_, rfl⟩
  rw [gR]
  unfold risG at gR
  have HG0 := Lib.hid gR
  obtain ⟨RL, gRL⟩ : ∃ z, R.length = z := ⟨_, rfl⟩
  rw [gRL]
  have GRL := Lib.hid gRL
  clear hg gR gRL
  go_enter Try.func9, Try.ntmps9
  go_upto_region 3 with fail
  obtain ⟨wS, gwS⟩ : ∃ z, w.alloc (.cells #[] 36) = z := ⟨_, rfl⟩
  have HO0 : RowKit.Hid (Ow w w.heap.size 36 6 (.slice (some ⟨w.heap.size, 0, none⟩) 0 0) 0 (rowsV gnC []) wS) := Lib.hid (gwS ▸ Ow.new_ (cs := #[]) (Below.refl _ _) (Nat.le_refl _) (Nat.le_refl _) (Nat.zero_le _) rfl)
  obtain ⟨v0, gv0⟩ : ∃ z : Value, .slice (some ⟨w.heap.size, 0, none⟩) 0 0 = z := ⟨_, rfl⟩
  rw [gwS, gv0]
  rw [gv0] at HO0
  clear gwS gv0
  go_loopw [3, 4] (fun v i wr => ∃ (k : Nat) (T : List Gn) (TL : Nat), k ≤ g ∧ TL ≤ k ∧ T.length = TL ∧ i = .int .i64 (k : Int) ∧ RowKit.Hid (Ow w w.heap.size 36 6 v TL (rowsV gnC T) wr) ∧ RowKit.Hid (risA T (G.drop k) = R)) (fun _ i _ => g - (intOf i).toNat)
  case atStart => exact ⟨0, [], 0, Nat.zero_le _, Nat.le_refl _, rfl, rfl, HO0, HG0⟩
  case round =>
    clear HO0 HG0
    obtain ⟨k, T, TL, hkn, hTk, hTl, rfl, HO, HG⟩ := hrel
    have HTl := Lib.hid hTl
    clear hTl
    obtain ⟨wo, gwo⟩ : ∃ z, wr = z := ⟨_, rfl⟩
    rw [gwo] at HO ⊢
    clear gwo
    obtain ⟨Ac, cc, rfl, hrd⟩ := HO.out.rds
    by_cases hlt : k < g
    · obtain ⟨x, hx⟩ : ∃ x, G[k]? = some x := ⟨_, List.getElem?_eq_getElem (by have := HGnl.out; omega)⟩
      have hdr : G.drop k = x :: G.drop (k + 1) := by
        rw [List.drop_eq_getElem_cons (List.getElem?_eq_some_iff.1 hx).1, (List.getElem?_eq_some_iff.1 hx).2]
      have hg2 := HG.out
      rw [hdr, risA] at hg2
      have HG2 := Lib.hid hg2
      obtain ⟨b, off, rfl, hbB, hpl⟩ := HGn.out.place gnC_len (by decide) (by omega)
      have HP0 := Lib.hid (hpl k x hx)
      have HbB := Lib.hid hbB
      clear hx hdr hg2 hpl hbB HG
      have hltI : (k : Int) < (g : Int) := by omega
      cases T with
      | nil =>
        obtain rfl : 0 = TL := HTl.out
        have HG3 : RowKit.Hid (risA ([] ++ [x]) (G.drop (k + 1)) = R) := Lib.hid (by have h := HG2.out; rw [if_pos (risOk_nil x)] at h; exact h)
        clear HG2 hrd
        go_upto_region 5 with fail
        refine wp_region_reg (Nil_) (by kernel_rfl) ?_
        apply wpR_next 0 (some 12)
        · simp only [List.getElem?_toArray, List.getElem?_cons_succ, List.getElem?_cons_zero]; exact rfl
        · rfl
        · kernel_rfl
        · kernel_rfl
        · kernel_rfl
        · exact fun _ _ _ _ h => h
        apply Exists.intro
        apply And.intro
        · apply yr_run; rfl; intro w' hw'; go_simp; (try with_reducible rfl)
        simp only [Act.put, List.setIfInBounds_toArray, List.set_cons_zero, List.set_cons_succ]
        apply wpR_next 1 (some 13)
        · simp only [List.getElem?_toArray, List.getElem?_cons_succ, List.getElem?_cons_zero]; exact rfl
        · rfl
        · kernel_rfl
        · kernel_rfl
        · kernel_rfl
        · exact fun _ _ _ _ h => h
        apply Exists.intro
        apply And.intro
        · apply yr_run; rfl; intro w' hw'; go_simp; (try with_reducible rfl)
        simp only [Act.put, List.setIfInBounds_toArray, List.set_cons_zero, List.set_cons_succ]
        apply wpR_next 2 (some 14)
        · simp only [List.getElem?_toArray, List.getElem?_cons_succ, List.getElem?_cons_zero]; exact rfl
        · rfl
        · kernel_rfl
        · kernel_rfl
        · kernel_rfl
        · exact fun _ _ _ _ h => h
        apply Exists.intro
        apply And.intro
        · apply yr_run; rfl; intro w' hw'; go_simp; (try with_reducible rfl)
        simp only [Act.put, List.setIfInBounds_toArray, List.set_cons_zero, List.set_cons_succ]
        apply wpR_next 3 (some 15)
        · simp only [List.getElem?_toArray, List.getElem?_cons_succ, List.getElem?_cons_zero]; exact rfl
        · rfl
        · kernel_rfl
        · kernel_rfl
        · kernel_rfl
        · exact fun _ _ _ _ h => h
        apply Exists.intro
        apply And.intro
        · apply yr_run; rfl; intro w' hw'; go_simp; (try with_reducible rfl)
        simp only [Act.put, List.setIfInBounds_toArray, List.set_cons_zero, List.set_cons_succ]
        apply wpR_next 4 (some 16)
        · simp only [List.getElem?_toArray, List.getElem?_cons_succ, List.getElem?_cons_zero]; exact rfl
        · rfl
        · kernel_rfl
        · kernel_rfl
        · kernel_rfl
        · exact fun _ _ _ _ h => h
        apply Exists.intro
        apply And.intro
        · exact yr_skip (by rfl)
        simp only [Act.put, List.setIfInBounds_toArray, List.set_cons_zero, List.set_cons_succ]
        apply wpR_next 5 (some 17)
        · simp only [List.getElem?_toArray, List.getElem?_cons_succ, List.getElem?_cons_zero]; exact rfl
        · rfl
        · kernel_rfl
        · kernel_rfl
        · kernel_rfl
        · exact fun _ _ _ _ h => h
        apply Exists.intro
        apply And.intro
        · exact yr_skip (by rfl)
        simp only [Act.put, List.setIfInBounds_toArray, List.set_cons_zero, List.set_cons_succ]
        apply wpR_next 6 (some 18)
        · simp only [List.getElem?_toArray, List.getElem?_cons_succ, List.getElem?_cons_zero]; exact rfl
        · rfl
        · kernel_rfl
        · kernel_rfl
        · kernel_rfl
        · exact fun _ _ _ _ h => h
        apply Exists.intro
        apply And.intro
        · exact yr_skip (by rfl)
        simp only [Act.put, List.setIfInBounds_toArray, List.set_cons_zero, List.set_cons_succ]
        apply wpR_next 7 (some 19)
        · simp only [List.getElem?_toArray, List.getElem?_cons_succ, List.getElem?_cons_zero]; exact rfl
        · rfl
        · kernel_rfl
        · kernel_rfl
        · kernel_rfl
        · exact fun _ _ _ _ h => h
        apply Exists.intro
        apply And.intro
        · exact yr_skip (by rfl)
        simp only [Act.put, List.setIfInBounds_toArray, List.set_cons_zero, List.set_cons_succ]
        apply wpR_next 8 (some 20)
        · simp only [List.getElem?_toArray, List.getElem?_cons_succ, List.getElem?_cons_zero]; exact rfl
        · rfl
        · kernel_rfl
        · kernel_rfl
        · kernel_rfl
        · exact fun _ _ _ _ h => h
        apply Exists.intro
        apply And.intro
        · exact yr_skip (by rfl)
        simp only [Act.put, List.setIfInBounds_toArray, List.set_cons_zero, List.set_cons_succ]
        apply wpR_next 9 (some 21)
        · simp only [List.getElem?_toArray, List.getElem?_cons_succ, List.getElem?_cons_zero]; exact rfl
        · rfl
        · kernel_rfl
        · kernel_rfl
        · kernel_rfl
        · exact fun _ _ _ _ h => h
        apply Exists.intro
        apply And.intro
        · exact yr_skip (by rfl)
        simp only [Act.put, List.setIfInBounds_toArray, List.set_cons_zero, List.set_cons_succ]
        apply wpR_next 10 (some 22)
        · simp only [List.getElem?_toArray, List.getElem?_cons_succ, List.getElem?_cons_zero]; exact rfl
        · rfl
        · kernel_rfl
        · kernel_rfl
        · kernel_rfl
        · exact fun _ _ _ _ h => h
        apply Exists.intro
        apply And.intro
        · exact yr_skip (by rfl)
        simp only [Act.put, List.setIfInBounds_toArray, List.set_cons_zero, List.set_cons_succ]
        apply wpR_next 11 (some 23)
        · simp only [List.getElem?_toArray, List.getElem?_cons_succ, List.getElem?_cons_zero]; exact rfl
        · rfl
        · kernel_rfl
        · kernel_rfl
        · kernel_rfl
        · exact fun _ _ _ _ h => h
        apply Exists.intro
        apply And.intro
        · exact yr_skip (by rfl)
        simp only [Act.put, List.setIfInBounds_toArray, List.set_cons_zero, List.set_cons_succ]
        apply wpR_next 12 (some 24)
        · simp only [List.getElem?_toArray, List.getElem?_cons_succ, List.getElem?_cons_zero]; exact rfl
        · rfl
        · kernel_rfl
        · kernel_rfl
        · kernel_rfl
        · exact fun _ _ _ _ h => h
        apply Exists.intro
        apply And.intro
        · exact yr_skip (by rfl)
        simp only [Act.put, List.setIfInBounds_toArray, List.set_cons_zero, List.set_cons_succ]
        apply wpR_next 13 (some 25)
        · simp only [List.getElem?_toArray, List.getElem?_cons_succ, List.getElem?_cons_zero]; exact rfl
        · rfl
        · kernel_rfl
        · kernel_rfl
        · kernel_rfl
        · exact fun _ _ _ _ h => h
        apply Exists.intro
        apply And.intro
        · exact yr_skip (by rfl)
        simp only [Act.put, List.setIfInBounds_toArray, List.set_cons_zero, List.set_cons_succ]
        apply wpR_next 14 (some 26)
        · simp only [List.getElem?_toArray, List.getElem?_cons_succ, List.getElem?_cons_zero]; exact rfl
        · rfl
        · kernel_rfl
        · kernel_rfl
        · kernel_rfl
        · exact fun _ _ _ _ h => h
        apply Exists.intro
        apply And.intro
        · exact yr_skip (by rfl)
        simp only [Act.put, List.setIfInBounds_toArray, List.set_cons_zero, List.set_cons_succ]
        apply wpR_next 15 (some 27)
        · simp only [List.getElem?_toArray, List.getElem?_cons_succ, List.getElem?_cons_zero]; exact rfl
        · rfl
        · kernel_rfl
        · kernel_rfl
        · kernel_rfl
        · exact fun _ _ _ _ h => h
        apply Exists.intro
        apply And.intro
        · exact yr_skip (by rfl)
        simp only [Act.put, List.setIfInBounds_toArray, List.set_cons_zero, List.set_cons_succ]
        apply wpR_next 16 (some 28)
        · simp only [List.getElem?_toArray, List.getElem?_cons_succ, List.getElem?_cons_zero]; exact rfl
        · rfl
        · kernel_rfl
        · kernel_rfl
        · kernel_rfl
        · exact fun _ _ _ _ h => h
        apply Exists.intro
        apply And.intro
        · exact yr_skip (by rfl)
        simp only [Act.put, List.setIfInBounds_toArray, List.set_cons_zero, List.set_cons_succ]
        apply wpR_next 17 (some 29)
        · simp only [List.getElem?_toArray, List.getElem?_cons_succ, List.getElem?_cons_zero]; exact rfl
        · rfl
        · kernel_rfl
        · kernel_rfl
        · kernel_rfl
        · exact fun _ _ _ _ h => h
        apply Exists.intro
        apply And.intro
        · exact yr_skip (by rfl)
        simp only [Act.put, List.setIfInBounds_toArray, List.set_cons_zero, List.set_cons_succ]
        apply wpR_next 18 (some 30)
        · simp only [List.getElem?_toArray, List.getElem?_cons_succ, List.getElem?_cons_zero]; exact rfl
        · rfl
        · kernel_rfl
        · kernel_rfl
        · kernel_rfl
        · exact fun _ _ _ _ h => h
        apply Exists.intro
        apply And.intro
        · apply yr_run; rfl; intro w' hw'; go_simp; (try with_reducible rfl)
        simp only [Act.put, List.setIfInBounds_toArray, List.set_cons_zero, List.set_cons_succ]
        refine wpR_done (by kernel_rfl) ?_ _
        intro W3 hw3
        have HO3 := Lib.hid (HO.out.up (bel_bl (bel_dr (Below.refl _ _)) hw3))
        have HP := Lib.hid (fun j' v (hv : (gnC x)[j']? = some v) => (Below.cell (bel_bl (bel_dr HO.out.below) hw3) (p := (⟨b, off + k * 6, none⟩ : Addr).add j') (by rw [add_block]; exact HbB.out)).trans (HP0.out j' v hv))
        clear hw3 HO HP0
        go_upto_region 6 with fail
        refine wp_region_lit ?_
        refine wl_read (v := ?_) (some 31) rfl (by rfl) ?_ ?_
        rotate_left
        · go_simp; (try with_reducible rfl)
        simp only [Act.put, List.setIfInBounds_toArray, List.set_cons_zero, List.set_cons_succ]
        refine wl_read (v := ?_) (some 32) rfl (by rfl) ?_ ?_
        rotate_left
        · go_simp; (try with_reducible rfl)
        simp only [Act.put, List.setIfInBounds_toArray, List.set_cons_zero, List.set_cons_succ]
        refine wl_read (v := ?_) (some 33) rfl (by rfl) ?_ ?_
        rotate_left
        · go_simp; (try with_reducible rfl)
        simp only [Act.put, List.setIfInBounds_toArray, List.set_cons_zero, List.set_cons_succ]
        refine wl_read (v := ?_) (some 34) rfl (by rfl) ?_ ?_
        rotate_left
        · go_simp; (try with_reducible rfl)
        simp only [Act.put, List.setIfInBounds_toArray, List.set_cons_zero, List.set_cons_succ]
        refine wl_load_at (some 35) rfl (by rfl) 36 (.tmp 34) rfl ⟨b, off + k * 6, none⟩ rfl (gnC x) _ HP.out Try.underlying36 rfl (by kernel_rfl) ?_
        simp only [Act.put, List.setIfInBounds_toArray, List.set_cons_zero, List.set_cons_succ]
        refine wl_buildSlice (some 36) rfl (by rfl) 26 36 1 #[(0, .tmp 35)] rfl Try.underlying26 (gnC x).toArray (by kernel_rfl) ?_
        simp only [Act.put, List.setIfInBounds_toArray, List.set_cons_zero, List.set_cons_succ]
        have HL4 : RowKit.Hid (RdS (W3.alloc (.cells (gnC x).toArray 36)) (W3.alloc (.cells (gnC x).toArray 36)).heap.size 6 (some ⟨W3.heap.size, 0, none⟩) 1 1 (rowsV gnC [x])) := Lib.hid (by rw [rows_one11]; exact RdS.of_whole (Whole.new_ _ _ _) rfl)
        have HO4 := Lib.hid (HO3.out.up (below1 W3 (.cells (gnC x).toArray 36)))
        obtain ⟨W4, gW4⟩ : ∃ z, W3.alloc (.cells (gnC x).toArray 36) = z := ⟨_, rfl⟩
        obtain ⟨g8, gg8⟩ : ∃ z, W3.heap.size = z := ⟨_, rfl⟩
        rw [gW4] at HL4 HO4 ⊢
        rw [gg8] at HL4 ⊢
        clear gW4 gg8 HO3 HP
        go_wp2_with (first
          | (at_builtin
             refine wpList_push2 rfl (.tmp 31) (.tmp 36) _ rfl _ 36 iG _ 6 48 Try.underlying26 hiG z0iG z1iG z2iG rfl (by decide) _ _ _ rfl HO4.out _ _ _ _ _ rfl HL4.out (rowsV_one11 gnC gnC_one [x]) (by unfold maxLen; omega) (by omega) ?_
             intro v5 W5 how5 hb5 hgr5
             obtain ⟨A5, c5, rfl, -⟩ := how5.rds
             have HO5 := Lib.hid how5
             clear how5 hb5 hgr5))
        go_roundw
        case rel =>
          refine ⟨k + 1, [] ++ [x], 0 + 1, by omega, by omega, by rw [List.length_append, HTl.out]; rfl, by go_num, Lib.hid ?_, HG3⟩
          rw [rowsV_app]
          exact HO5.out
        case measure => simp [intOf]; omega
      | cons t0 T0 =>
        obtain ⟨T, gT⟩ : ∃ z, t0 :: T0 = z := ⟨_, rfl⟩
        rw [gT] at HTl HO HG2 hrd
        obtain ⟨t1, rfl⟩ : ∃ t1, TL = t1 + 1 := ⟨T0.length, by rw [← HTl.out, ← gT]; rfl⟩
        clear gT t0 T0
        obtain ⟨TL, gTL⟩ : ∃ z, t1 + 1 = z := ⟨_, rfl⟩
        have HT1 : RowKit.Hid (T.length = t1 + 1) := HTl
        rw [gTL] at HTl HO hTk hrd ⊢
        obtain ⟨y, hy⟩ : ∃ y, T[t1]? = some y := ⟨_, List.getElem?_eq_getElem (by have := HT1.out; omega)⟩
        obtain ⟨b2, off2, rfl, hb2, hpl2⟩ := hrd.place gnC_len (by decide) (by omega)
        have m0 := hpl2 t1 y hy 0 _ rfl
        have m1 := hpl2 t1 y hy 1 _ rfl
        have m2 := hpl2 t1 y hy 2 _ rfl
        have hbk := HO.out.below
        have n0 := (hbk.cell (p := (⟨b, off + k * 6, none⟩ : Addr).add 0) HbB.out).trans (HP0.out 0 _ rfl)
        have n1 := (hbk.cell (p := (⟨b, off + k * 6, none⟩ : Addr).add 1) HbB.out).trans (HP0.out 1 _ rfl)
        have n2 := (hbk.cell (p := (⟨b, off + k * 6, none⟩ : Addr).add 2) HbB.out).trans (HP0.out 2 _ rfl)
        simp only [Addr.add_lit, Nat.add_zero] at m0 m1 m2 n0 n1 n2
        have hOk := risOk_last (x := x) hy HT1.out
        have hor := rorderdart_any y.1.1 y.1.2.1 y.1.2.2 x.1.1 x.1.2.1 x.1.2.2
        obtain ⟨ov, gov⟩ : ∃ z, ordG y x = z := ⟨_, rfl⟩
        rw [gov] at hOk
        replace hor : Pure 19 #[.agg #[.int .i64 y.1.1, .int .i64 y.1.2.1, .int .i64 y.1.2.2], .agg #[.int .i64 x.1.1, .int .i64 x.1.2.1, .int .i64 x.1.2.2]] (.int .i64 ov) := gov ▸ hor
        have HOr := Lib.hid hor
        have HOk := Lib.hid hOk
        have e1 : IntKind.i64.wrap (t1 : Int) = (t1 : Int) := IntWalk.i64_in _ (by omega)
        have e2 : ((TL : Int) == 0) = false := beq_eq_false_iff_ne.2 (by omega)
        have e3 : (t1 : Int) < (TL : Int) := by omega
        have e4 : (TL : Int) - 1 = (t1 : Int) := by omega
        clear hrd hpl2 hb2 hbk gov hor hOk hy
        go_upto_region 5 with fail
        have ldm0 : ∀ w', Kept Nil_ wo.drew w' → w'.cell? ⟨b2, off2 + t1 * 6, none⟩ = some (.int .i64 y.1.1) := fun w' h => h.nil_cell (m0)
        have ldn0 : ∀ w', Kept Nil_ wo.drew w' → w'.cell? ⟨b, off + k * 6, none⟩ = some (.int .i64 x.1.1) := fun w' h => h.nil_cell (n0)
        have ldm1 : ∀ w', Kept Nil_ wo.drew w' → w'.cell? ⟨b2, off2 + t1 * 6 + 1, none⟩ = some (.int .i64 y.1.2.1) := fun w' h => h.nil_cell (m1)
        have ldn1 : ∀ w', Kept Nil_ wo.drew w' → w'.cell? ⟨b, off + k * 6 + 1, none⟩ = some (.int .i64 x.1.2.1) := fun w' h => h.nil_cell (n1)
        have ldm2 : ∀ w', Kept Nil_ wo.drew w' → w'.cell? ⟨b2, off2 + t1 * 6 + 2, none⟩ = some (.int .i64 y.1.2.2) := fun w' h => h.nil_cell (m2)
        have ldn2 : ∀ w', Kept Nil_ wo.drew w' → w'.cell? ⟨b, off + k * 6 + 2, none⟩ = some (.int .i64 x.1.2.2) := fun w' h => h.nil_cell (n2)
        clear m0 m1 m2 n0 n1 n2
        by_cases hlo : ov < 0
        · have hq : decide (ov < 0) = true := decide_eq_true hlo
          have HG3 : RowKit.Hid (risA (T ++ [x]) (G.drop (k + 1)) = R) := Lib.hid (by have h := HG2.out; rw [if_pos (HOk.out.trans hq)] at h; exact h)
          clear HG2 HOk hlo
          refine wp_region_reg (Nil_) (by kernel_rfl) ?_
          apply wpR_next 0 (some 12)
          · simp only [List.getElem?_toArray, List.getElem?_cons_succ, List.getElem?_cons_zero]; exact rfl
          · rfl
          · kernel_rfl
          · kernel_rfl
          · kernel_rfl
          · exact fun _ _ _ _ h => h
          apply Exists.intro
          apply And.intro
          · apply yr_run; rfl; intro w' hw'; go_simp; (try with_reducible rfl)
          simp only [Act.put, List.setIfInBounds_toArray, List.set_cons_zero, List.set_cons_succ]
          apply wpR_next 1 (some 13)
          · simp only [List.getElem?_toArray, List.getElem?_cons_succ, List.getElem?_cons_zero]; exact rfl
          · rfl
          · kernel_rfl
          · kernel_rfl
          · kernel_rfl
          · exact fun _ _ _ _ h => h
          apply Exists.intro
          apply And.intro
          · apply yr_run; rfl; intro w' hw'; go_simp; (try with_reducible rfl)
          simp only [Act.put, List.setIfInBounds_toArray, List.set_cons_zero, List.set_cons_succ]
          apply wpR_next 2 (some 14)
          · simp only [List.getElem?_toArray, List.getElem?_cons_succ, List.getElem?_cons_zero]; exact rfl
          · rfl
          · kernel_rfl
          · kernel_rfl
          · kernel_rfl
          · exact fun _ _ _ _ h => h
          apply Exists.intro
          apply And.intro
          · apply yr_run; rfl; intro w' hw'; go_simp; (try with_reducible rfl)
          simp only [Act.put, List.setIfInBounds_toArray, List.set_cons_zero, List.set_cons_succ]
          apply wpR_next 3 (some 15)
          · simp only [List.getElem?_toArray, List.getElem?_cons_succ, List.getElem?_cons_zero]; exact rfl
          · rfl
          · kernel_rfl
          · kernel_rfl
          · kernel_rfl
          · exact fun _ _ _ _ h => h
          apply Exists.intro
          apply And.intro
          · apply yr_run; rfl; intro w' hw'; go_simp; (try with_reducible rfl)
          simp only [Act.put, List.setIfInBounds_toArray, List.set_cons_zero, List.set_cons_succ]
          apply wpR_next 4 (some 16)
          · simp only [List.getElem?_toArray, List.getElem?_cons_succ, List.getElem?_cons_zero]; exact rfl
          · rfl
          · kernel_rfl
          · kernel_rfl
          · kernel_rfl
          · exact fun _ _ _ _ h => h
          apply Exists.intro
          apply And.intro
          · apply yr_run; rfl; intro w' hw'; go_simp; (try with_reducible rfl)
          simp only [Act.put, List.setIfInBounds_toArray, List.set_cons_zero, List.set_cons_succ]
          apply wpR_next 5 (some 17)
          · simp only [List.getElem?_toArray, List.getElem?_cons_succ, List.getElem?_cons_zero]; exact rfl
          · rfl
          · kernel_rfl
          · kernel_rfl
          · kernel_rfl
          · exact fun _ _ _ _ h => h
          apply Exists.intro
          apply And.intro
          · apply yr_run; rfl; intro w' hw'; go_simp; (try with_reducible rfl)
          simp only [Act.put, List.setIfInBounds_toArray, List.set_cons_zero, List.set_cons_succ]
          apply wpR_next 6 (some 18)
          · simp only [List.getElem?_toArray, List.getElem?_cons_succ, List.getElem?_cons_zero]; exact rfl
          · rfl
          · kernel_rfl
          · kernel_rfl
          · kernel_rfl
          · exact fun _ _ _ _ h => h
          apply Exists.intro
          apply And.intro
          · apply yr_run; rfl; intro w' hw'; go_simp; (try with_reducible rfl)
          simp only [Act.put, List.setIfInBounds_toArray, List.set_cons_zero, List.set_cons_succ]
          apply wpR_next 7 (some 19)
          · simp only [List.getElem?_toArray, List.getElem?_cons_succ, List.getElem?_cons_zero]; exact rfl
          · rfl
          · kernel_rfl
          · kernel_rfl
          · kernel_rfl
          · exact fun _ _ _ _ h => h
          apply Exists.intro
          apply And.intro
          · apply yr_run; rfl; intro w' hw'; go_simp; (try with_reducible rfl)
          simp only [Act.put, List.setIfInBounds_toArray, List.set_cons_zero, List.set_cons_succ]
          apply wpR_next 8 (some 20)
          · simp only [List.getElem?_toArray, List.getElem?_cons_succ, List.getElem?_cons_zero]; exact rfl
          · rfl
          · kernel_rfl
          · kernel_rfl
          · kernel_rfl
          · exact fun _ _ _ _ h => h
          apply Exists.intro
          apply And.intro
          · apply yr_run; rfl; intro w' hw'; go_simp; (try with_reducible rfl)
          simp only [Act.put, List.setIfInBounds_toArray, List.set_cons_zero, List.set_cons_succ]
          apply wpR_next 9 (some 21)
          · simp only [List.getElem?_toArray, List.getElem?_cons_succ, List.getElem?_cons_zero]; exact rfl
          · rfl
          · kernel_rfl
          · kernel_rfl
          · kernel_rfl
          · exact fun _ _ _ _ h => h
          apply Exists.intro
          apply And.intro
          · apply yr_run; rfl; intro w' hw'; go_simp; (try with_reducible rfl)
          simp only [Act.put, List.setIfInBounds_toArray, List.set_cons_zero, List.set_cons_succ]
          apply wpR_next 10 (some 22)
          · simp only [List.getElem?_toArray, List.getElem?_cons_succ, List.getElem?_cons_zero]; exact rfl
          · rfl
          · kernel_rfl
          · kernel_rfl
          · kernel_rfl
          · exact fun _ _ _ _ h => h
          apply Exists.intro
          apply And.intro
          · apply yr_run; rfl; intro w' hw'; go_simp; (try with_reducible rfl)
          simp only [Act.put, List.setIfInBounds_toArray, List.set_cons_zero, List.set_cons_succ]
          apply wpR_next 11 (some 23)
          · simp only [List.getElem?_toArray, List.getElem?_cons_succ, List.getElem?_cons_zero]; exact rfl
          · rfl
          · kernel_rfl
          · kernel_rfl
          · kernel_rfl
          · exact fun _ _ _ _ h => h
          apply Exists.intro
          apply And.intro
          · apply yr_run; rfl; intro w' hw'; go_simp; (try with_reducible rfl)
          simp only [Act.put, List.setIfInBounds_toArray, List.set_cons_zero, List.set_cons_succ]
          apply wpR_next 12 (some 24)
          · simp only [List.getElem?_toArray, List.getElem?_cons_succ, List.getElem?_cons_zero]; exact rfl
          · rfl
          · kernel_rfl
          · kernel_rfl
          · kernel_rfl
          · exact fun _ _ _ _ h => h
          apply Exists.intro
          apply And.intro
          · apply yr_run; rfl; intro w' hw'; go_simp; (try with_reducible rfl)
          simp only [Act.put, List.setIfInBounds_toArray, List.set_cons_zero, List.set_cons_succ]
          apply wpR_next 13 (some 25)
          · simp only [List.getElem?_toArray, List.getElem?_cons_succ, List.getElem?_cons_zero]; exact rfl
          · rfl
          · kernel_rfl
          · kernel_rfl
          · kernel_rfl
          · exact fun _ _ _ _ h => h
          apply Exists.intro
          apply And.intro
          · apply yr_run; rfl; intro w' hw'; go_simp; (try with_reducible rfl)
          simp only [Act.put, List.setIfInBounds_toArray, List.set_cons_zero, List.set_cons_succ]
          apply wpR_next 14 (some 26)
          · simp only [List.getElem?_toArray, List.getElem?_cons_succ, List.getElem?_cons_zero]; exact rfl
          · rfl
          · kernel_rfl
          · kernel_rfl
          · kernel_rfl
          · exact fun _ _ _ _ h => h
          apply Exists.intro
          apply And.intro
          · apply yr_run; rfl; intro w' hw'; go_simp; (try with_reducible rfl)
          simp only [Act.put, List.setIfInBounds_toArray, List.set_cons_zero, List.set_cons_succ]
          apply wpR_next 15 (some 27)
          · simp only [List.getElem?_toArray, List.getElem?_cons_succ, List.getElem?_cons_zero]; exact rfl
          · rfl
          · kernel_rfl
          · kernel_rfl
          · kernel_rfl
          · exact fun _ _ _ _ h => h
          apply Exists.intro
          apply And.intro
          · apply yr_run; rfl; intro w' hw'; go_simp; (try with_reducible rfl)
          simp only [Act.put, List.setIfInBounds_toArray, List.set_cons_zero, List.set_cons_succ]
          apply wpR_next 16 (some 28)
          · simp only [List.getElem?_toArray, List.getElem?_cons_succ, List.getElem?_cons_zero]; exact rfl
          · rfl
          · kernel_rfl
          · kernel_rfl
          · kernel_rfl
          · exact fun _ _ _ _ h => h
          apply Exists.intro
          apply And.intro
          · apply yr_call; rfl; rotate_left; intro w' hw'; exact HOr.out w'; intro w'; go_simp
          simp only [Act.put, List.setIfInBounds_toArray, List.set_cons_zero, List.set_cons_succ]
          apply wpR_next 17 (some 29)
          · simp only [List.getElem?_toArray, List.getElem?_cons_succ, List.getElem?_cons_zero]; exact rfl
          · rfl
          · kernel_rfl
          · kernel_rfl
          · kernel_rfl
          · exact fun _ _ _ _ h => h
          apply Exists.intro
          apply And.intro
          · apply yr_run; rfl; intro w' hw'; go_simp; (try with_reducible rfl)
          simp only [Act.put, List.setIfInBounds_toArray, List.set_cons_zero, List.set_cons_succ]
          apply wpR_next 18 (some 30)
          · simp only [List.getElem?_toArray, List.getElem?_cons_succ, List.getElem?_cons_zero]; exact rfl
          · rfl
          · kernel_rfl
          · kernel_rfl
          · kernel_rfl
          · exact fun _ _ _ _ h => h
          apply Exists.intro
          apply And.intro
          · apply yr_run; rfl; intro w' hw'; go_simp; (try with_reducible rfl)
          simp only [Act.put, List.setIfInBounds_toArray, List.set_cons_zero, List.set_cons_succ]
          refine wpR_done (by kernel_rfl) ?_ _
          intro W3 hw3
          have HO3 := Lib.hid (HO.out.up (bel_bl (bel_dr (Below.refl _ _)) hw3))
          have HP := Lib.hid (fun j' v (hv : (gnC x)[j']? = some v) => (Below.cell (bel_bl (bel_dr HO.out.below) hw3) (p := (⟨b, off + k * 6, none⟩ : Addr).add j') (by rw [add_block]; exact HbB.out)).trans (HP0.out j' v hv))
          clear hw3 HO HP0 hq ldm0 ldm1 ldm2 ldn0 ldn1 ldn2 HOr e1 e2 e3 e4
          go_upto_region 6 with fail
          refine wp_region_lit ?_
          refine wl_read (v := ?_) (some 31) rfl (by rfl) ?_ ?_
          rotate_left
          · go_simp; (try with_reducible rfl)
          simp only [Act.put, List.setIfInBounds_toArray, List.set_cons_zero, List.set_cons_succ]
          refine wl_read (v := ?_) (some 32) rfl (by rfl) ?_ ?_
          rotate_left
          · go_simp; (try with_reducible rfl)
          simp only [Act.put, List.setIfInBounds_toArray, List.set_cons_zero, List.set_cons_succ]
          refine wl_read (v := ?_) (some 33) rfl (by rfl) ?_ ?_
          rotate_left
          · go_simp; (try with_reducible rfl)
          simp only [Act.put, List.setIfInBounds_toArray, List.set_cons_zero, List.set_cons_succ]
          refine wl_read (v := ?_) (some 34) rfl (by rfl) ?_ ?_
          rotate_left
          · go_simp; (try with_reducible rfl)
          simp only [Act.put, List.setIfInBounds_toArray, List.set_cons_zero, List.set_cons_succ]
          refine wl_load_at (some 35) rfl (by rfl) 36 (.tmp 34) rfl ⟨b, off + k * 6, none⟩ rfl (gnC x) _ HP.out Try.underlying36 rfl (by kernel_rfl) ?_
          simp only [Act.put, List.setIfInBounds_toArray, List.set_cons_zero, List.set_cons_succ]
          refine wl_buildSlice (some 36) rfl (by rfl) 26 36 1 #[(0, .tmp 35)] rfl Try.underlying26 (gnC x).toArray (by kernel_rfl) ?_
          simp only [Act.put, List.setIfInBounds_toArray, List.set_cons_zero, List.set_cons_succ]
          have HL4 : RowKit.Hid (RdS (W3.alloc (.cells (gnC x).toArray 36)) (W3.alloc (.cells (gnC x).toArray 36)).heap.size 6 (some ⟨W3.heap.size, 0, none⟩) 1 1 (rowsV gnC [x])) := Lib.hid (by rw [rows_one11]; exact RdS.of_whole (Whole.new_ _ _ _) rfl)
          have HO4 := Lib.hid (HO3.out.up (below1 W3 (.cells (gnC x).toArray 36)))
          obtain ⟨W4, gW4⟩ : ∃ z, W3.alloc (.cells (gnC x).toArray 36) = z := ⟨_, rfl⟩
          obtain ⟨g8, gg8⟩ : ∃ z, W3.heap.size = z := ⟨_, rfl⟩
          rw [gW4] at HL4 HO4 ⊢
          rw [gg8] at HL4 ⊢
          clear gW4 gg8 HO3 HP
          go_wp2_with (first
            | (at_builtin
               refine wpList_push2 rfl (.tmp 31) (.tmp 36) _ rfl _ 36 iG _ 6 48 Try.underlying26 hiG z0iG z1iG z2iG rfl (by decide) _ _ _ rfl HO4.out _ _ _ _ _ rfl HL4.out (rowsV_one11 gnC gnC_one [x]) (by unfold maxLen; omega) (by omega) ?_
               intro v5 W5 how5 hb5 hgr5
               obtain ⟨A5, c5, rfl, -⟩ := how5.rds
               have HO5 := Lib.hid how5
               clear how5 hb5 hgr5))
          go_roundw
          case rel =>
            refine ⟨k + 1, T ++ [x], TL + 1, by omega, by omega, by rw [List.length_append, HTl.out]; rfl, by go_num, Lib.hid ?_, HG3⟩
            rw [rowsV_app]
            exact HO5.out
          case measure => simp [intOf]; omega
        · have hq : decide (ov < 0) = false := decide_eq_false hlo
          have HG3 : RowKit.Hid (risA T (G.drop (k + 1)) = R) := Lib.hid (by have h := HG2.out; rw [if_neg (by rw [HOk.out, hq]; decide)] at h; exact h)
          clear HG2 HOk hlo
          refine wp_region_reg (Nil_) (by kernel_rfl) ?_
          apply wpR_next 0 (some 12)
          · simp only [List.getElem?_toArray, List.getElem?_cons_succ, List.getElem?_cons_zero]; exact rfl
          · rfl
          · kernel_rfl
          · kernel_rfl
          · kernel_rfl
          · exact fun _ _ _ _ h => h
          apply Exists.intro
          apply And.intro
          · apply yr_run; rfl; intro w' hw'; go_simp; (try with_reducible rfl)
          simp only [Act.put, List.setIfInBounds_toArray, List.set_cons_zero, List.set_cons_succ]
          apply wpR_next 1 (some 13)
          · simp only [List.getElem?_toArray, List.getElem?_cons_succ, List.getElem?_cons_zero]; exact rfl
          · rfl
          · kernel_rfl
          · kernel_rfl
          · kernel_rfl
          · exact fun _ _ _ _ h => h
          apply Exists.intro
          apply And.intro
          · apply yr_run; rfl; intro w' hw'; go_simp; (try with_reducible rfl)
          simp only [Act.put, List.setIfInBounds_toArray, List.set_cons_zero, List.set_cons_succ]
          apply wpR_next 2 (some 14)
          · simp only [List.getElem?_toArray, List.getElem?_cons_succ, List.getElem?_cons_zero]; exact rfl
          · rfl
          · kernel_rfl
          · kernel_rfl
          · kernel_rfl
          · exact fun _ _ _ _ h => h
          apply Exists.intro
          apply And.intro
          · apply yr_run; rfl; intro w' hw'; go_simp; (try with_reducible rfl)
          simp only [Act.put, List.setIfInBounds_toArray, List.set_cons_zero, List.set_cons_succ]
          apply wpR_next 3 (some 15)
          · simp only [List.getElem?_toArray, List.getElem?_cons_succ, List.getElem?_cons_zero]; exact rfl
          · rfl
          · kernel_rfl
          · kernel_rfl
          · kernel_rfl
          · exact fun _ _ _ _ h => h
          apply Exists.intro
          apply And.intro
          · apply yr_run; rfl; intro w' hw'; go_simp; (try with_reducible rfl)
          simp only [Act.put, List.setIfInBounds_toArray, List.set_cons_zero, List.set_cons_succ]
          apply wpR_next 4 (some 16)
          · simp only [List.getElem?_toArray, List.getElem?_cons_succ, List.getElem?_cons_zero]; exact rfl
          · rfl
          · kernel_rfl
          · kernel_rfl
          · kernel_rfl
          · exact fun _ _ _ _ h => h
          apply Exists.intro
          apply And.intro
          · apply yr_run; rfl; intro w' hw'; go_simp; (try with_reducible rfl)
          simp only [Act.put, List.setIfInBounds_toArray, List.set_cons_zero, List.set_cons_succ]
          apply wpR_next 5 (some 17)
          · simp only [List.getElem?_toArray, List.getElem?_cons_succ, List.getElem?_cons_zero]; exact rfl
          · rfl
          · kernel_rfl
          · kernel_rfl
          · kernel_rfl
          · exact fun _ _ _ _ h => h
          apply Exists.intro
          apply And.intro
          · apply yr_run; rfl; intro w' hw'; go_simp; (try with_reducible rfl)
          simp only [Act.put, List.setIfInBounds_toArray, List.set_cons_zero, List.set_cons_succ]
          apply wpR_next 6 (some 18)
          · simp only [List.getElem?_toArray, List.getElem?_cons_succ, List.getElem?_cons_zero]; exact rfl
          · rfl
          · kernel_rfl
          · kernel_rfl
          · kernel_rfl
          · exact fun _ _ _ _ h => h
          apply Exists.intro
          apply And.intro
          · apply yr_run; rfl; intro w' hw'; go_simp; (try with_reducible rfl)
          simp only [Act.put, List.setIfInBounds_toArray, List.set_cons_zero, List.set_cons_succ]
          apply wpR_next 7 (some 19)
          · simp only [List.getElem?_toArray, List.getElem?_cons_succ, List.getElem?_cons_zero]; exact rfl
          · rfl
          · kernel_rfl
          · kernel_rfl
          · kernel_rfl
          · exact fun _ _ _ _ h => h
          apply Exists.intro
          apply And.intro
          · apply yr_run; rfl; intro w' hw'; go_simp; (try with_reducible rfl)
          simp only [Act.put, List.setIfInBounds_toArray, List.set_cons_zero, List.set_cons_succ]
          apply wpR_next 8 (some 20)
          · simp only [List.getElem?_toArray, List.getElem?_cons_succ, List.getElem?_cons_zero]; exact rfl
          · rfl
          · kernel_rfl
          · kernel_rfl
          · kernel_rfl
          · exact fun _ _ _ _ h => h
          apply Exists.intro
          apply And.intro
          · apply yr_run; rfl; intro w' hw'; go_simp; (try with_reducible rfl)
          simp only [Act.put, List.setIfInBounds_toArray, List.set_cons_zero, List.set_cons_succ]
          apply wpR_next 9 (some 21)
          · simp only [List.getElem?_toArray, List.getElem?_cons_succ, List.getElem?_cons_zero]; exact rfl
          · rfl
          · kernel_rfl
          · kernel_rfl
          · kernel_rfl
          · exact fun _ _ _ _ h => h
          apply Exists.intro
          apply And.intro
          · apply yr_run; rfl; intro w' hw'; go_simp; (try with_reducible rfl)
          simp only [Act.put, List.setIfInBounds_toArray, List.set_cons_zero, List.set_cons_succ]
          apply wpR_next 10 (some 22)
          · simp only [List.getElem?_toArray, List.getElem?_cons_succ, List.getElem?_cons_zero]; exact rfl
          · rfl
          · kernel_rfl
          · kernel_rfl
          · kernel_rfl
          · exact fun _ _ _ _ h => h
          apply Exists.intro
          apply And.intro
          · apply yr_run; rfl; intro w' hw'; go_simp; (try with_reducible rfl)
          simp only [Act.put, List.setIfInBounds_toArray, List.set_cons_zero, List.set_cons_succ]
          apply wpR_next 11 (some 23)
          · simp only [List.getElem?_toArray, List.getElem?_cons_succ, List.getElem?_cons_zero]; exact rfl
          · rfl
          · kernel_rfl
          · kernel_rfl
          · kernel_rfl
          · exact fun _ _ _ _ h => h
          apply Exists.intro
          apply And.intro
          · apply yr_run; rfl; intro w' hw'; go_simp; (try with_reducible rfl)
          simp only [Act.put, List.setIfInBounds_toArray, List.set_cons_zero, List.set_cons_succ]
          apply wpR_next 12 (some 24)
          · simp only [List.getElem?_toArray, List.getElem?_cons_succ, List.getElem?_cons_zero]; exact rfl
          · rfl
          · kernel_rfl
          · kernel_rfl
          · kernel_rfl
          · exact fun _ _ _ _ h => h
          apply Exists.intro
          apply And.intro
          · apply yr_run; rfl; intro w' hw'; go_simp; (try with_reducible rfl)
          simp only [Act.put, List.setIfInBounds_toArray, List.set_cons_zero, List.set_cons_succ]
          apply wpR_next 13 (some 25)
          · simp only [List.getElem?_toArray, List.getElem?_cons_succ, List.getElem?_cons_zero]; exact rfl
          · rfl
          · kernel_rfl
          · kernel_rfl
          · kernel_rfl
          · exact fun _ _ _ _ h => h
          apply Exists.intro
          apply And.intro
          · apply yr_run; rfl; intro w' hw'; go_simp; (try with_reducible rfl)
          simp only [Act.put, List.setIfInBounds_toArray, List.set_cons_zero, List.set_cons_succ]
          apply wpR_next 14 (some 26)
          · simp only [List.getElem?_toArray, List.getElem?_cons_succ, List.getElem?_cons_zero]; exact rfl
          · rfl
          · kernel_rfl
          · kernel_rfl
          · kernel_rfl
          · exact fun _ _ _ _ h => h
          apply Exists.intro
          apply And.intro
          · apply yr_run; rfl; intro w' hw'; go_simp; (try with_reducible rfl)
          simp only [Act.put, List.setIfInBounds_toArray, List.set_cons_zero, List.set_cons_succ]
          apply wpR_next 15 (some 27)
          · simp only [List.getElem?_toArray, List.getElem?_cons_succ, List.getElem?_cons_zero]; exact rfl
          · rfl
          · kernel_rfl
          · kernel_rfl
          · kernel_rfl
          · exact fun _ _ _ _ h => h
          apply Exists.intro
          apply And.intro
          · apply yr_run; rfl; intro w' hw'; go_simp; (try with_reducible rfl)
          simp only [Act.put, List.setIfInBounds_toArray, List.set_cons_zero, List.set_cons_succ]
          apply wpR_next 16 (some 28)
          · simp only [List.getElem?_toArray, List.getElem?_cons_succ, List.getElem?_cons_zero]; exact rfl
          · rfl
          · kernel_rfl
          · kernel_rfl
          · kernel_rfl
          · exact fun _ _ _ _ h => h
          apply Exists.intro
          apply And.intro
          · apply yr_call; rfl; rotate_left; intro w' hw'; exact HOr.out w'; intro w'; go_simp
          simp only [Act.put, List.setIfInBounds_toArray, List.set_cons_zero, List.set_cons_succ]
          apply wpR_next 17 (some 29)
          · simp only [List.getElem?_toArray, List.getElem?_cons_succ, List.getElem?_cons_zero]; exact rfl
          · rfl
          · kernel_rfl
          · kernel_rfl
          · kernel_rfl
          · exact fun _ _ _ _ h => h
          apply Exists.intro
          apply And.intro
          · apply yr_run; rfl; intro w' hw'; go_simp; (try with_reducible rfl)
          simp only [Act.put, List.setIfInBounds_toArray, List.set_cons_zero, List.set_cons_succ]
          apply wpR_next 18 (some 30)
          · simp only [List.getElem?_toArray, List.getElem?_cons_succ, List.getElem?_cons_zero]; exact rfl
          · rfl
          · kernel_rfl
          · kernel_rfl
          · kernel_rfl
          · exact fun _ _ _ _ h => h
          apply Exists.intro
          apply And.intro
          · apply yr_run; rfl; intro w' hw'; go_simp; (try with_reducible rfl)
          simp only [Act.put, List.setIfInBounds_toArray, List.set_cons_zero, List.set_cons_succ]
          refine wpR_done (by kernel_rfl) ?_ _
          intro W3 hw3
          have HO3 := Lib.hid (HO.out.up (bel_bl (bel_dr (Below.refl _ _)) hw3))
          have HP := Lib.hid (fun j' v (hv : (gnC x)[j']? = some v) => (Below.cell (bel_bl (bel_dr HO.out.below) hw3) (p := (⟨b, off + k * 6, none⟩ : Addr).add j') (by rw [add_block]; exact HbB.out)).trans (HP0.out j' v hv))
          clear hw3 HO HP0 HP ldm0 ldm1 ldm2 ldn0 ldn1 ldn2 HOr e1 e2 e3 e4
          go_wp2
          go_roundw
          case rel => exact ⟨k + 1, T, TL, by omega, by omega, HTl.out, by go_num, HO3, HG3⟩
          case measure => simp [intOf]; omega
    · obtain rfl : g = k := by omega
      have hg2 := HG.out
      rw [List.drop_eq_nil_of_le (by have := HGnl.out; omega)] at hg2
      replace hg2 : T = R := hg2
      subst hg2
      have HRd := Lib.hid hrd
      have HBl := Lib.hid HO.out.below
      have HNw : RowKit.Hid (∀ a, Ac = some a → 0 < RL → w.heap.size ≤ a.block) := Lib.hid (fun a ha h0 => by
        subst ha
        exact (HO.out.own.lt a.block rfl).1)
      have hTT : RL = TL := by rw [← GRL.out, ← HTl.out]
      have hnl : ¬ (g : Int) < (g : Int) := by omega
      subst hTT
      clear HG HO hrd
      go_wp2
      go_ret
      exact ⟨Ac, cc, rfl, HRd.out, HBl.out, HNw.out⟩
end Go.Proofs.Ytkhklhipiiehbaa

/- The document's own Index, Turn, Next, Prev of rings. -/
namespace Go.Proofs.Ytkhklhipiiehbaa
open Go.RowKit
set_option linter.unusedSimpArgs false

set_option maxHeartbeats 400000 in
theorem rfindex_any (A : Option Addr) (n c : Nat) (L : List D) (d : D) (w : World) (h : RdS w w.heap.size 3 A n c (dartsV L)) (hn : n ≤ 9223372036854775807) :
    Calls Try.prog 16 #[.slice A n c, .agg #[.int .i64 d.1, .int .i64 d.2.1, .int .i64 d.2.2]] w fun e w' => e = .returned (.int .i64 (idxD L d)) ∧ Below w.heap.size w w' := by
  have hl := h.dlen
  have HL := Lib.hid hl
  have H := Lib.hid h
  have HS : RowKit.Hid (IdxAt w L d 0 (w.alloc (.cells #[.int .i64 d.1, .int .i64 d.2.1, .int .i64 d.2.2] 32))) := ⟨fun j hj => absurd hj (by omega), Whole.new_ w _ [.int .i64 d.1, .int .i64 d.2.1, .int .i64 d.2.2], below1 _ _⟩
  clear h hl
  go_enter Try.func16, Try.ntmps16
  go_wp2
  go_loopw [5] (fun i wr => ∃ k : Nat, k ≤ n ∧ i = .int .i64 k ∧ IdxAt w L d k wr) (fun i _ => n - (intOf i).toNat)
  case atStart => exact ⟨0, Nat.zero_le _, rfl, HS.out⟩
  case round =>
    obtain ⟨k, hk, rfl, h1, h2, h3⟩ := hrel
    have H1 := Lib.hid h1
    have H2 := Lib.hid h2
    have H3 := Lib.hid h3
    clear h1 HS
    by_cases hlt : k < n
    · obtain ⟨b, off, rfl, hb, hc⟩ := H.out.darts (by omega)
      obtain ⟨c1, c2, c3⟩ := hc k (by rw [HL.out]; exact hlt)
      have d1 := (h3.cell (p := ⟨b, off + k * 3, none⟩) hb).trans c1
      have d2 := (h3.cell (p := ⟨b, off + k * 3 + 1, none⟩) hb).trans c2
      have d3 := (h3.cell (p := ⟨b, off + k * 3 + 2, none⟩) hb).trans c3
      have b1 := h2.cell (i := 0) rfl
      have b2 := h2.cell (i := 1) rfl
      have b3 := h2.cell (i := 2) rfl
      obtain ⟨x, gx⟩ : ∃ v, L.getD k (0, 0, 0) = v := ⟨_, rfl⟩
      rw [gx] at d1 d2 d3
      have GX := Lib.hid gx
      have hq := eq_dart_run x d
      clear h2 h3 hc c1 c2 c3 gx
      by_cases hd : x = d
      · have hd' : decide (x = d) = true := by simpa using hd
        rw [hd'] at hq
        have HD := Lib.hid hd
        clear hd hd'
        go_wp2
        go_quiet (fail)
        go_wp2
        go_ret
        exact ⟨ret_int (by rw [idxD_at (by rw [HL.out]; exact hlt) (GX.out.trans HD.out) H1.out]), ⟨H3.out.os, H3.out.tape, H3.out.output, H3.out.size, H3.out.block⟩⟩
      · have hd' : decide (x = d) = false := by simpa using hd
        rw [hd'] at hq
        have HD := Lib.hid hd
        clear hd hd'
        go_wp2
        go_quiet (fail)
        go_wp2
        go_roundw
        case rel =>
          refine ⟨k + 1, by omega, by go_num, fun j hj => ?_, H2.out, ⟨H3.out.os, H3.out.tape, H3.out.output, H3.out.size, H3.out.block⟩⟩
          rcases Nat.lt_or_ge j k with h | h
          · exact H1.out j h
          · obtain rfl : j = k := by omega
            rw [GX.out]
            exact HD.out
        case measure => simp [intOf]; omega
    · clear h2 h3
      go_wp2
      go_ret
      refine ⟨ret_int ?_, H3.out⟩
      rw [idxD_not]
      intro j hj
      exact H1.out j (by have := HL.out; omega)


end Go.Proofs.Ytkhklhipiiehbaa

/- The document's MayAttr, Vertex, Edge, At, times. -/
namespace Go.Proofs.Ytkhklhipiiehbaa
open Go.RowKit
set_option linter.unusedSimpArgs false
set_option linter.unusedVariables false

set_option maxRecDepth 100000 in
set_option maxHeartbeats 4000000 in
theorem rfindV (A : Option Addr) (n c : Nat) (Vs : List VC) (B : Option Addr) (m k : Nat) (Es : List EC) (x1 x2 : Int) (w : World) (h : RdS w w.heap.size 5 A n c (rowsV vC Vs)) (hn : n ≤ 140737488355328) :
    Calls Try.prog 15 #[.agg #[.slice A n c, .slice B m k], .agg #[.int .i64 x1, .int .i64 x2]] w fun e w' => e = .returned (.tuple #[.agg (vC (fndV Vs (x1, x2)).1).toArray, .bool (fndV Vs (x1, x2)).2]) ∧ Below w.heap.size w w' := by
  have H := Lib.hid h
  have Hl := Lib.hid (h.rlen vC_len (by decide))
  obtain ⟨⟨r, ok⟩, gr⟩ : ∃ z, fndV Vs (x1, x2) = z := ⟨_, rfl⟩
  rw [gr]
  have HG := Lib.hid gr
  clear h gr
  go_enter Try.func15, Try.ntmps15
  go_wp2
  have hx0 : Whole (((w.alloc (.cells #[.slice A n c, .slice B m k] 25)).alloc (.cells #[.int .i64 x1, .int .i64 x2] 30)).alloc (.cells #[.int .i64 0, .int .i64 0, .slice none 0 0, .string { data := #[] }, .int .i64 0] 53)) (w.heap.size) 25 [.slice A n c, .slice B m k] := (((Whole.new_ w 25 [.slice A n c, .slice B m k]).alloc (.cells #[.int .i64 x1, .int .i64 x2] 30)).alloc (.cells #[.int .i64 0, .int .i64 0, .slice none 0 0, .string { data := #[] }, .int .i64 0] 53))
  have hx1 : Whole (((w.alloc (.cells #[.slice A n c, .slice B m k] 25)).alloc (.cells #[.int .i64 x1, .int .i64 x2] 30)).alloc (.cells #[.int .i64 0, .int .i64 0, .slice none 0 0, .string { data := #[] }, .int .i64 0] 53)) (w.heap.size + 1) 30 [.int .i64 x1, .int .i64 x2] := ((Whole.new2 (w := (w.alloc (.cells #[.slice A n c, .slice B m k] 25))) (by simp)).alloc (.cells #[.int .i64 0, .int .i64 0, .slice none 0 0, .string { data := #[] }, .int .i64 0] 53))
  have hx2 : Whole (((w.alloc (.cells #[.slice A n c, .slice B m k] 25)).alloc (.cells #[.int .i64 x1, .int .i64 x2] 30)).alloc (.cells #[.int .i64 0, .int .i64 0, .slice none 0 0, .string { data := #[] }, .int .i64 0] 53)) (w.heap.size + 1 + 1) 53 [.int .i64 0, .int .i64 0, .slice none 0 0, .string { data := #[] }, .int .i64 0] := (Whole.new2 (w := ((w.alloc (.cells #[.slice A n c, .slice B m k] 25)).alloc (.cells #[.int .i64 x1, .int .i64 x2] 30))) (by simp))
  have hbl : Below w.heap.size w (((w.alloc (.cells #[.slice A n c, .slice B m k] 25)).alloc (.cells #[.int .i64 x1, .int .i64 x2] 30)).alloc (.cells #[.int .i64 0, .int .i64 0, .slice none 0 0, .string { data := #[] }, .int .i64 0] 53)) := (bel_al (bel_al (below1 w (.cells #[.slice A n c, .slice B m k] 25)) (.cells #[.int .i64 x1, .int .i64 x2] 30)) (.cells #[.int .i64 0, .int .i64 0, .slice none 0 0, .string { data := #[] }, .int .i64 0] 53))
  have hsz : w.heap.size + 1 + 1 + 1 ≤ ((((w.alloc (.cells #[.slice A n c, .slice B m k] 25)).alloc (.cells #[.int .i64 x1, .int .i64 x2] 30)).alloc (.cells #[.int .i64 0, .int .i64 0, .slice none 0 0, .string { data := #[] }, .int .i64 0] 53))).heap.size := by simp
  obtain ⟨W0, gW0⟩ : ∃ z, (((w.alloc (.cells #[.slice A n c, .slice B m k] 25)).alloc (.cells #[.int .i64 x1, .int .i64 x2] 30)).alloc (.cells #[.int .i64 0, .int .i64 0, .slice none 0 0, .string { data := #[] }, .int .i64 0] 53)) = z := ⟨_, rfl⟩
  rw [gW0] at hx0 hx1 hx2 hbl hsz
  obtain ⟨b2, gb2⟩ : ∃ z, w.heap.size + 1 + 1 = z := ⟨_, rfl⟩
  rw [gb2] at hx2
  obtain ⟨b1, gb1⟩ : ∃ z, w.heap.size + 1 = z := ⟨_, rfl⟩
  rw [gb1] at hx1
  obtain ⟨b0, gb0⟩ : ∃ z, w.heap.size = z := ⟨_, rfl⟩
  rw [gb0] at hx0
  have HX0 := Lib.hid hx0
  have HX1 := Lib.hid hx1
  have HX2 := Lib.hid hx2
  have HB0 := Lib.hid hbl
  have HS0 := Lib.hid hsz
  have Gb0 := Lib.hid gb0
  have Lb0 : RowKit.Hid (w.heap.size ≤ b0) := Lib.hid (by omega)
  have Gb1 := Lib.hid gb1
  have Lb1 : RowKit.Hid (w.heap.size ≤ b1) := Lib.hid (by omega)
  have Gb2 := Lib.hid gb2
  have Lb2 : RowKit.Hid (w.heap.size ≤ b2) := Lib.hid (by omega)
  have N01 : RowKit.Hid (b0 ≠ b1) := Lib.hid (by omega)
  have N02 : RowKit.Hid (b0 ≠ b2) := Lib.hid (by omega)
  have N12 : RowKit.Hid (b1 ≠ b2) := Lib.hid (by omega)
  rw [gW0, gb2, gb1, gb0]
  clear gW0 hbl hsz hx0 hx1 hx2 gb0 gb1 gb2
  go_loopw [6] (fun si wr => ∃ j : Nat, j ≤ n ∧ si = .int .i64 j ∧ RowKit.Hid (Below w.heap.size w wr) ∧ RowKit.Hid (Whole wr b0 25 [.slice A n c, .slice B m k]) ∧ RowKit.Hid (Whole wr b1 30 [.int .i64 x1, .int .i64 x2]) ∧ RowKit.Hid (Whole wr b2 53 [.int .i64 0, .int .i64 0, .slice none 0 0, .string { data := #[] }, .int .i64 0]) ∧ RowKit.Hid (fndV (Vs.drop j) (x1, x2) = (r, ok))) (fun si _ => n - (intOf si).toNat)
  case atStart => exact ⟨0, by omega, rfl, HB0, HX0, HX1, HX2, HG⟩
  case round =>
    clear HB0 HX0 HX1 HX2 HG
    obtain ⟨j, hj, rfl, HB, HX0, HX1, HX2, HG⟩ := hrel
    obtain ⟨wo, gwo⟩ : ∃ z, wr = z := ⟨_, rfl⟩
    rw [gwo] at HB HX0 HX1 HX2 ⊢
    clear gwo
    by_cases hjn : j < n
    · obtain ⟨x, hx⟩ : ∃ x, Vs[j]? = some x := ⟨_, List.getElem?_eq_getElem (by have := Hl.out; omega)⟩
      have hdr : Vs.drop j = x :: Vs.drop (j + 1) := by
        rw [List.drop_eq_getElem_cons (List.getElem?_eq_some_iff.1 hx).1, (List.getElem?_eq_some_iff.1 hx).2]
      have hg2 := HG.out
      rw [hdr] at hg2
      have HG2 := Lib.hid hg2
      obtain ⟨bb, off, rfl, hbB, hpl⟩ := H.out.place vC_len (by decide) (by omega)
      have Hbo : RowKit.Hid (bb < wo.heap.size) := Lib.hid (Nat.lt_of_lt_of_le hbB HB.out.size)
      have hbw := HB.out
      have q0 := hpl j _ hx 0 _ rfl
      have q1 := hpl j _ hx 1 _ rfl
      have q2 := hpl j _ hx 2 _ rfl
      have q3 := hpl j _ hx 3 _ rfl
      have q4 := hpl j _ hx 4 _ rfl
      simp only [Addr.add_lit, Nat.add_zero] at q0 q1 q2 q3 q4
      have l0 := (hbw.cell (p := ⟨bb, off + j * 5, none⟩) hbB).trans q0
      have l1 := (hbw.cell (p := ⟨bb, off + j * 5 + 1, none⟩) hbB).trans q1
      have l2 := (hbw.cell (p := ⟨bb, off + j * 5 + 2, none⟩) hbB).trans q2
      have l3 := (hbw.cell (p := ⟨bb, off + j * 5 + 3, none⟩) hbB).trans q3
      have l4 := (hbw.cell (p := ⟨bb, off + j * 5 + 4, none⟩) hbB).trans q4
      clear hbw q0 q1 q2 q3 q4
      obtain ⟨⟨i1, i2⟩, ⟨rA, rn, rc, rL⟩, lb, at_⟩ := x
      have HE := Lib.hid (And.intro l0 (And.intro l1 (And.intro l2 (And.intro l3 l4))))
      have cb := HX0.out.cell (i := 0) rfl
      clear hx hdr hg2 hpl hbB HG
      have ldl0 := l0
      go_upto_region 4 with fail
      clear cb ldl0
      have ldb : ∀ w', Kept Nil_ wo.drew w' → w'.cell? ⟨b0, 0, none⟩ = some (.slice (some ⟨bb, off, none⟩) n c) := fun w' h => h.nil_cell (HX0.out.dr.cell (i := 0) rfl)
      have ldx : ∀ w', Kept Nil_ wo.drew w' → w'.cell? ⟨b1, 0, none⟩ = some (.int .i64 x1) := fun w' h => h.nil_cell (HX1.out.dr.cell (i := 0) rfl)
      have ldy : ∀ w', Kept Nil_ wo.drew w' → w'.cell? ⟨b1, 1, none⟩ = some (.int .i64 x2) := fun w' h => h.nil_cell (HX1.out.dr.cell (i := 1) rfl)
      have lde : ∀ w', Kept Nil_ wo.drew w' → w'.cell? ⟨bb, off + j * 5, none⟩ = some (.int .i64 i1) := fun w' h => h.nil_cell (l0)
      have ldf : ∀ w', Kept Nil_ wo.drew w' → w'.cell? ⟨bb, off + j * 5 + 1, none⟩ = some (.int .i64 i2) := fun w' h => h.nil_cell (l1)
      clear l0 l1 l2 l3 l4
      have heq := fun W => eq_id i1 i2 x1 x2 W
      obtain ⟨bq, gbq⟩ : ∃ z, (i1 == x1 && i2 == x2) = z := ⟨_, rfl⟩
      rw [gbq] at heq
      have Gbq := Lib.hid gbq
      clear gbq
      refine wp_region_reg (Nil_) (by kernel_rfl) ?_
      apply wpR_next 0 (some 14)
      · simp only [List.getElem?_toArray, List.getElem?_cons_succ, List.getElem?_cons_zero]; exact rfl
      · rfl
      · kernel_rfl
      · kernel_rfl
      · kernel_rfl
      · exact fun _ _ _ _ h => h
      apply Exists.intro
      apply And.intro
      · apply yr_run; rfl; intro w' hw'; go_simp; (try with_reducible rfl)
      simp only [Act.put, List.setIfInBounds_toArray, List.set_cons_zero, List.set_cons_succ]
      apply wpR_next 1 (some 15)
      · simp only [List.getElem?_toArray, List.getElem?_cons_succ, List.getElem?_cons_zero]; exact rfl
      · rfl
      · kernel_rfl
      · kernel_rfl
      · kernel_rfl
      · exact fun _ _ _ _ h => h
      apply Exists.intro
      apply And.intro
      · apply yr_run; rfl; intro w' hw'; go_simp; (try with_reducible rfl)
      simp only [Act.put, List.setIfInBounds_toArray, List.set_cons_zero, List.set_cons_succ]
      apply wpR_next 2 (some 16)
      · simp only [List.getElem?_toArray, List.getElem?_cons_succ, List.getElem?_cons_zero]; exact rfl
      · rfl
      · kernel_rfl
      · kernel_rfl
      · kernel_rfl
      · exact fun _ _ _ _ h => h
      apply Exists.intro
      apply And.intro
      · apply yr_run; rfl; intro w' hw'; go_simp; (try with_reducible rfl)
      simp only [Act.put, List.setIfInBounds_toArray, List.set_cons_zero, List.set_cons_succ]
      apply wpR_next 3 (some 17)
      · simp only [List.getElem?_toArray, List.getElem?_cons_succ, List.getElem?_cons_zero]; exact rfl
      · rfl
      · kernel_rfl
      · kernel_rfl
      · kernel_rfl
      · exact fun _ _ _ _ h => h
      apply Exists.intro
      apply And.intro
      · apply yr_run; rfl; intro w' hw'; go_simp; (try with_reducible rfl)
      simp only [Act.put, List.setIfInBounds_toArray, List.set_cons_zero, List.set_cons_succ]
      apply wpR_next 4 (some 18)
      · simp only [List.getElem?_toArray, List.getElem?_cons_succ, List.getElem?_cons_zero]; exact rfl
      · rfl
      · kernel_rfl
      · kernel_rfl
      · kernel_rfl
      · exact fun _ _ _ _ h => h
      apply Exists.intro
      apply And.intro
      · apply yr_run; rfl; intro w' hw'; go_simp; (try with_reducible rfl)
      simp only [Act.put, List.setIfInBounds_toArray, List.set_cons_zero, List.set_cons_succ]
      apply wpR_next 5 (some 19)
      · simp only [List.getElem?_toArray, List.getElem?_cons_succ, List.getElem?_cons_zero]; exact rfl
      · rfl
      · kernel_rfl
      · kernel_rfl
      · kernel_rfl
      · exact fun _ _ _ _ h => h
      apply Exists.intro
      apply And.intro
      · apply yr_run; rfl; intro w' hw'; go_simp; (try with_reducible rfl)
      simp only [Act.put, List.setIfInBounds_toArray, List.set_cons_zero, List.set_cons_succ]
      apply wpR_next 6 (some 20)
      · simp only [List.getElem?_toArray, List.getElem?_cons_succ, List.getElem?_cons_zero]; exact rfl
      · rfl
      · kernel_rfl
      · kernel_rfl
      · kernel_rfl
      · exact fun _ _ _ _ h => h
      apply Exists.intro
      apply And.intro
      · apply yr_run; rfl; intro w' hw'; go_simp; (try with_reducible rfl)
      simp only [Act.put, List.setIfInBounds_toArray, List.set_cons_zero, List.set_cons_succ]
      apply wpR_next 7 (some 21)
      · simp only [List.getElem?_toArray, List.getElem?_cons_succ, List.getElem?_cons_zero]; exact rfl
      · rfl
      · kernel_rfl
      · kernel_rfl
      · kernel_rfl
      · exact fun _ _ _ _ h => h
      apply Exists.intro
      apply And.intro
      · apply yr_run; rfl; intro w' hw'; go_simp; (try with_reducible rfl)
      simp only [Act.put, List.setIfInBounds_toArray, List.set_cons_zero, List.set_cons_succ]
      refine wpR_done (by kernel_rfl) ?_ _
      intro W3 hw3
      have HX03 := Lib.hid (HX0.out.dr.bl hw3)
      have HX13 := Lib.hid (HX1.out.dr.bl hw3)
      have HX23 := Lib.hid (HX2.out.dr.bl hw3)
      have HE3 : RowKit.Hid (Below wo.heap.size wo W3) := Lib.hid (bel_bl (bel_dr (Below.refl _ _)) hw3)
      have HB3 := Lib.hid (bel_bl HB.out HE3.out)
      clear hw3 ldb ldx ldy lde ldf HB HX0 HX1 HX2 heq
      cases bq with
      | true =>
        have hq := Gbq.out
        rw [Bool.and_eq_true, beq_iff_eq, beq_iff_eq] at hq
        have hg := HG2.out
        rw [fndV, fnd_yes _ _ _ _ _ (by rw [hq.1, hq.2])] at hg
        injection hg with hg1 hg2
        subst hg1 hg2
        obtain ⟨l0, l1, l2, l3, l4⟩ := HE.out
        have hB3 := HE3.out
        have hbo := Hbo.out
        have cb := HX03.out.cell (i := 0) rfl
        have f0 := HX23.out.free 0
        have k0 := HX23.out.cell (i := 0) rfl
        have y0 := (hB3.cell (p := ⟨bb, off + j * 5, none⟩) hbo).trans l0
        have f1 := HX23.out.free 1
        have k1 := HX23.out.cell (i := 1) rfl
        have y1 := (hB3.cell (p := ⟨bb, off + j * 5 + 1, none⟩) hbo).trans l1
        have f2 := HX23.out.free 2
        have k2 := HX23.out.cell (i := 2) rfl
        have y2 := (hB3.cell (p := ⟨bb, off + j * 5 + 2, none⟩) hbo).trans l2
        have f3 := HX23.out.free 3
        have k3 := HX23.out.cell (i := 3) rfl
        have y3 := (hB3.cell (p := ⟨bb, off + j * 5 + 3, none⟩) hbo).trans l3
        have f4 := HX23.out.free 4
        have k4 := HX23.out.cell (i := 4) rfl
        have y4 := (hB3.cell (p := ⟨bb, off + j * 5 + 4, none⟩) hbo).trans l4
        have HY := Lib.hid (((((HX23.out.set_ 0 (.int .i64 i1)).set_ 1 (.int .i64 i2)).set_ 2 (.slice rA rn rc)).set_ 3 (.string lb)).set_ 4 (.int .i64 at_))
        have HBf := Lib.hid (((((HB3.out.setCell (p := ⟨b2, 0, none⟩) Lb2.out (.int .i64 i1)).setCell (p := ⟨b2, 1, none⟩) Lb2.out (.int .i64 i2)).setCell (p := ⟨b2, 2, none⟩) Lb2.out (.slice rA rn rc)).setCell (p := ⟨b2, 3, none⟩) Lb2.out (.string lb)).setCell (p := ⟨b2, 4, none⟩) Lb2.out (.int .i64 at_))
        clear HX23 HG2 HB3 hq l0 l1 l2 l3 l4 HE hB3 HE3
        go_wp2
        exact ret_whole2 rfl b2 rfl rfl HY.out Try.underlying53 rfl (by kernel_rfl) rfl ⟨rfl, HBf.out⟩
      | false =>
        have hg := HG2.out
        rw [fndV, fnd_no _ _ _ _ _ (fun e => by
          have e1 : i1 = x1 := congrArg Prod.fst e
          have e2 : i2 = x2 := congrArg Prod.snd e
          have := Gbq.out
          rw [e1, e2] at this
          simp at this)] at hg
        have HG4 := Lib.hid hg
        clear hg HG2 HE HE3
        go_wp2
        go_roundw
        case rel => exact ⟨j + 1, by omega, by go_num, HB3, HX03, HX13, HX23, HG4⟩
        case measure => simp [intOf]; omega
    · obtain rfl : n = j := by omega
      have hg := HG.out
      rw [List.drop_eq_nil_of_le (by have := Hl.out; omega)] at hg
      replace hg : (zV, false) = (r, ok) := hg
      injection hg with hg1 hg2
      subst hg1 hg2
      have cb := HX0.out.cell (i := 0) rfl
      have f0 := HX2.out.free 0
      have k0 := HX2.out.cell (i := 0) rfl
      have f1 := HX2.out.free 1
      have k1 := HX2.out.cell (i := 1) rfl
      have f2 := HX2.out.free 2
      have k2 := HX2.out.cell (i := 2) rfl
      have f3 := HX2.out.free 3
      have k3 := HX2.out.cell (i := 3) rfl
      have f4 := HX2.out.free 4
      have k4 := HX2.out.cell (i := 4) rfl
      have HY := Lib.hid (((((HX2.out.set_ 0 (.int .i64 0)).set_ 1 (.int .i64 0)).set_ 2 (.slice none 0 0)).set_ 3 (.string { data := #[] })).set_ 4 (.int .i64 0))
      have HBf := Lib.hid (((((HB.out.setCell (p := ⟨b2, 0, none⟩) Lb2.out (.int .i64 0)).setCell (p := ⟨b2, 1, none⟩) Lb2.out (.int .i64 0)).setCell (p := ⟨b2, 2, none⟩) Lb2.out (.slice none 0 0)).setCell (p := ⟨b2, 3, none⟩) Lb2.out (.string { data := #[] })).setCell (p := ⟨b2, 4, none⟩) Lb2.out (.int .i64 0))
      clear HG HX2
      go_wp2
      exact ret_whole2 rfl b2 rfl rfl HY.out Try.underlying53 rfl (by kernel_rfl) rfl ⟨rfl, HBf.out⟩
end Go.Proofs.Ytkhklhipiiehbaa

/- The document's At, times. -/
namespace Go.Proofs.Ytkhklhipiiehbaa
open Go.RowKit
set_option linter.unusedSimpArgs false
set_option linter.unusedVariables false

set_option maxRecDepth 100000 in
set_option maxHeartbeats 4000000 in
theorem rat_any (A : Option Addr) (n c : Nat) (Vs : List VC) (B : Option Addr) (m k : Nat) (Es : List EC) (x1 x2 x3 : Int) (w : World) (h : DgIn w A n c Vs B m k Es) (hn : n ≤ 140737488355328) (hr : ∀ y ∈ Vs, y.2.1.2.1 ≤ 5864062014634) :
    Calls Try.prog 11 #[.agg #[.slice A n c, .slice B m k], .agg #[.int .i64 x1, .int .i64 x2, .int .i64 x3]] w fun e w' =>
      e = .returned (.tuple #[.agg #[.int .i64 (atV Vs (x1, x2, x3)).1.1, .int .i64 (atV Vs (x1, x2, x3)).1.2], .bool (atV Vs (x1, x2, x3)).2]) ∧ Below w.heap.size w w' := by
  have H := Lib.hid h.v
  have HRg := Lib.hid h.r
  have Hhr := Lib.hid hr
  have Hl := Lib.hid (h.v.rlen vC_len (by decide))
  obtain ⟨⟨⟨r1, r2⟩, r3⟩, gr⟩ : ∃ z, atV Vs (x1, x2, x3) = z := ⟨_, rfl⟩
  rw [gr]
  have HG := Lib.hid gr
  clear h hr gr
  go_enter Try.func11, Try.ntmps11
  go_wp2
  have hx0 : Whole (((w.alloc (.cells #[.slice A n c, .slice B m k] 25)).alloc (.cells #[.int .i64 x1, .int .i64 x2, .int .i64 x3] 32)).alloc (.cells #[.int .i64 0, .int .i64 0] 30)) (w.heap.size) 25 [.slice A n c, .slice B m k] := (((Whole.new_ w 25 [.slice A n c, .slice B m k]).alloc (.cells #[.int .i64 x1, .int .i64 x2, .int .i64 x3] 32)).alloc (.cells #[.int .i64 0, .int .i64 0] 30))
  have hx1 : Whole (((w.alloc (.cells #[.slice A n c, .slice B m k] 25)).alloc (.cells #[.int .i64 x1, .int .i64 x2, .int .i64 x3] 32)).alloc (.cells #[.int .i64 0, .int .i64 0] 30)) (w.heap.size + 1) 32 [.int .i64 x1, .int .i64 x2, .int .i64 x3] := ((Whole.new2 (w := (w.alloc (.cells #[.slice A n c, .slice B m k] 25))) (by simp)).alloc (.cells #[.int .i64 0, .int .i64 0] 30))
  have hx2 : Whole (((w.alloc (.cells #[.slice A n c, .slice B m k] 25)).alloc (.cells #[.int .i64 x1, .int .i64 x2, .int .i64 x3] 32)).alloc (.cells #[.int .i64 0, .int .i64 0] 30)) (w.heap.size + 1 + 1) 30 [.int .i64 0, .int .i64 0] := (Whole.new2 (w := ((w.alloc (.cells #[.slice A n c, .slice B m k] 25)).alloc (.cells #[.int .i64 x1, .int .i64 x2, .int .i64 x3] 32))) (by simp))
  have hbl : Below w.heap.size w (((w.alloc (.cells #[.slice A n c, .slice B m k] 25)).alloc (.cells #[.int .i64 x1, .int .i64 x2, .int .i64 x3] 32)).alloc (.cells #[.int .i64 0, .int .i64 0] 30)) := (bel_al (bel_al (below1 w (.cells #[.slice A n c, .slice B m k] 25)) (.cells #[.int .i64 x1, .int .i64 x2, .int .i64 x3] 32)) (.cells #[.int .i64 0, .int .i64 0] 30))
  have hsz : w.heap.size + 1 + 1 + 1 ≤ ((((w.alloc (.cells #[.slice A n c, .slice B m k] 25)).alloc (.cells #[.int .i64 x1, .int .i64 x2, .int .i64 x3] 32)).alloc (.cells #[.int .i64 0, .int .i64 0] 30))).heap.size := by simp
  obtain ⟨W0, gW0⟩ : ∃ z, (((w.alloc (.cells #[.slice A n c, .slice B m k] 25)).alloc (.cells #[.int .i64 x1, .int .i64 x2, .int .i64 x3] 32)).alloc (.cells #[.int .i64 0, .int .i64 0] 30)) = z := ⟨_, rfl⟩
  rw [gW0] at hx0 hx1 hx2 hbl hsz
  obtain ⟨b2, gb2⟩ : ∃ z, w.heap.size + 1 + 1 = z := ⟨_, rfl⟩
  rw [gb2] at hx2
  obtain ⟨b1, gb1⟩ : ∃ z, w.heap.size + 1 = z := ⟨_, rfl⟩
  rw [gb1] at hx1
  obtain ⟨b0, gb0⟩ : ∃ z, w.heap.size = z := ⟨_, rfl⟩
  rw [gb0] at hx0
  have HX0 := Lib.hid hx0
  have HX1 := Lib.hid hx1
  have HX2 := Lib.hid hx2
  have HB0 := Lib.hid hbl
  have HS0 := Lib.hid hsz
  have Gb0 := Lib.hid gb0
  have Lb0 : RowKit.Hid (w.heap.size ≤ b0) := Lib.hid (by omega)
  have Gb1 := Lib.hid gb1
  have Lb1 : RowKit.Hid (w.heap.size ≤ b1) := Lib.hid (by omega)
  have Gb2 := Lib.hid gb2
  have Lb2 : RowKit.Hid (w.heap.size ≤ b2) := Lib.hid (by omega)
  have N01 : RowKit.Hid (b0 ≠ b1) := Lib.hid (by omega)
  have N02 : RowKit.Hid (b0 ≠ b2) := Lib.hid (by omega)
  have N12 : RowKit.Hid (b1 ≠ b2) := Lib.hid (by omega)
  rw [gW0, gb2, gb1, gb0]
  clear gW0 hbl hsz hx0 hx1 hx2 gb0 gb1 gb2
  go_loopw [6] (fun si wr => ∃ j : Nat, j ≤ n ∧ si = .int .i64 j ∧ RowKit.Hid (Below w.heap.size w wr) ∧ RowKit.Hid (Whole wr b0 25 [.slice A n c, .slice B m k]) ∧ RowKit.Hid (Whole wr b1 32 [.int .i64 x1, .int .i64 x2, .int .i64 x3]) ∧ RowKit.Hid (Whole wr b2 30 [.int .i64 0, .int .i64 0]) ∧ RowKit.Hid (atV (Vs.drop j) (x1, x2, x3) = ((r1, r2), r3))) (fun si _ => n - (intOf si).toNat)
  case atStart => exact ⟨0, by omega, rfl, HB0, HX0, HX1, HX2, HG⟩
  case round =>
    clear HB0 HX0 HX1 HX2 HG
    obtain ⟨j, hj, rfl, HB, HX0, HX1, HX2, HG⟩ := hrel
    obtain ⟨wo, gwo⟩ : ∃ z, wr = z := ⟨_, rfl⟩
    rw [gwo] at HB HX0 HX1 HX2 ⊢
    clear gwo
    by_cases hjn : j < n
    · obtain ⟨x, hx⟩ : ∃ x, Vs[j]? = some x := ⟨_, List.getElem?_eq_getElem (by have := Hl.out; omega)⟩
      have hdr : Vs.drop j = x :: Vs.drop (j + 1) := by
        rw [List.drop_eq_getElem_cons (List.getElem?_eq_some_iff.1 hx).1, (List.getElem?_eq_some_iff.1 hx).2]
      have hg2 := HG.out
      rw [hdr] at hg2
      have HG2 := Lib.hid hg2
      have hrg := HRg.out x (List.mem_of_getElem? hx)
      have hrn := Hhr.out x (List.mem_of_getElem? hx)
      obtain ⟨bb, off, rfl, hbB, hpl⟩ := H.out.place vC_len (by decide) (by omega)
      have Hbo : RowKit.Hid (bb < wo.heap.size) := Lib.hid (Nat.lt_of_lt_of_le hbB HB.out.size)
      have hbw := HB.out
      have q0 := hpl j _ hx 0 _ rfl
      have q1 := hpl j _ hx 1 _ rfl
      have q2 := hpl j _ hx 2 _ rfl
      have q3 := hpl j _ hx 3 _ rfl
      have q4 := hpl j _ hx 4 _ rfl
      simp only [Addr.add_lit, Nat.add_zero] at q0 q1 q2 q3 q4
      have l0 := (hbw.cell (p := ⟨bb, off + j * 5, none⟩) hbB).trans q0
      have l1 := (hbw.cell (p := ⟨bb, off + j * 5 + 1, none⟩) hbB).trans q1
      have l2 := (hbw.cell (p := ⟨bb, off + j * 5 + 2, none⟩) hbB).trans q2
      have l3 := (hbw.cell (p := ⟨bb, off + j * 5 + 3, none⟩) hbB).trans q3
      have l4 := (hbw.cell (p := ⟨bb, off + j * 5 + 4, none⟩) hbB).trans q4
      clear hbw q0 q1 q2 q3 q4
      obtain ⟨⟨i1, i2⟩, ⟨rA, rn, rc, rL⟩, lb, at_⟩ := x
      have hR : RdS w w.heap.size 3 rA rn rc (dartsV rL) := hrg.2
      replace hrn : rn ≤ 5864062014634 := hrn
      have hI : ∀ w', Kept Nil_ wo.drew w' → Calls Try.prog 16 #[.slice rA rn rc, .agg #[.int .i64 x1, .int .i64 x2, .int .i64 x3]] w' fun e w'' => e = .returned (.int .i64 (idxD rL (x1, x2, x3))) ∧ Below w'.heap.size w' w'' :=
        fun w' hk => rfindex_any rA rn rc rL (x1, x2, x3) w' ((hR.bl (bel_dr HB.out)).bl (hk.below (Nat.le_refl _) (fun _ _ h => h))) (by omega)
      have HI := Lib.hid hI
      have HE := Lib.hid (And.intro l0 l1)
      have cb := HX0.out.cell (i := 0) rfl
      clear hx hdr hg2 hpl hbB HG hrg hR hI l0 l1 l3 l4
      obtain ⟨ix, gix⟩ : ∃ z, idxD rL (x1, x2, x3) = z := ⟨_, rfl⟩
      rw [gix] at HI
      have Gix := Lib.hid gix
      clear gix
      go_upto_region 4 with fail
      clear cb
      have ldb : ∀ w', Kept Nil_ wo.drew w' → w'.cell? ⟨b0, 0, none⟩ = some (.slice (some ⟨bb, off, none⟩) n c) := fun w' h => h.nil_cell (HX0.out.dr.cell (i := 0) rfl)
      have ldx : ∀ w', Kept Nil_ wo.drew w' → w'.cell? ⟨b1, 0, none⟩ = some (.int .i64 x1) := fun w' h => h.nil_cell (HX1.out.dr.cell (i := 0) rfl)
      have ldy : ∀ w', Kept Nil_ wo.drew w' → w'.cell? ⟨b1, 1, none⟩ = some (.int .i64 x2) := fun w' h => h.nil_cell (HX1.out.dr.cell (i := 1) rfl)
      have ldz : ∀ w', Kept Nil_ wo.drew w' → w'.cell? ⟨b1, 2, none⟩ = some (.int .i64 x3) := fun w' h => h.nil_cell (HX1.out.dr.cell (i := 2) rfl)
      have ldr : ∀ w', Kept Nil_ wo.drew w' → w'.cell? ⟨bb, off + j * 5 + 2, none⟩ = some (.slice rA rn rc) := fun w' h => h.nil_cell (l2)
      clear l2
      refine wp_region_reg (Nil_) (by kernel_rfl) ?_
      apply wpR_next 0 (some 14)
      · simp only [List.getElem?_toArray, List.getElem?_cons_succ, List.getElem?_cons_zero]; exact rfl
      · rfl
      · kernel_rfl
      · kernel_rfl
      · kernel_rfl
      · exact fun _ _ _ _ h => h
      apply Exists.intro
      apply And.intro
      · apply yr_run; rfl; intro w' hw'; go_simp; (try with_reducible rfl)
      simp only [Act.put, List.setIfInBounds_toArray, List.set_cons_zero, List.set_cons_succ]
      apply wpR_next 1 (some 15)
      · simp only [List.getElem?_toArray, List.getElem?_cons_succ, List.getElem?_cons_zero]; exact rfl
      · rfl
      · kernel_rfl
      · kernel_rfl
      · kernel_rfl
      · exact fun _ _ _ _ h => h
      apply Exists.intro
      apply And.intro
      · apply yr_run; rfl; intro w' hw'; go_simp; (try with_reducible rfl)
      simp only [Act.put, List.setIfInBounds_toArray, List.set_cons_zero, List.set_cons_succ]
      apply wpR_next 2 (some 16)
      · simp only [List.getElem?_toArray, List.getElem?_cons_succ, List.getElem?_cons_zero]; exact rfl
      · rfl
      · kernel_rfl
      · kernel_rfl
      · kernel_rfl
      · exact fun _ _ _ _ h => h
      apply Exists.intro
      apply And.intro
      · apply yr_run; rfl; intro w' hw'; go_simp; (try with_reducible rfl)
      simp only [Act.put, List.setIfInBounds_toArray, List.set_cons_zero, List.set_cons_succ]
      apply wpR_next 3 (some 17)
      · simp only [List.getElem?_toArray, List.getElem?_cons_succ, List.getElem?_cons_zero]; exact rfl
      · rfl
      · kernel_rfl
      · kernel_rfl
      · kernel_rfl
      · exact fun _ _ _ _ h => h
      apply Exists.intro
      apply And.intro
      · apply yr_run; rfl; intro w' hw'; go_simp; (try with_reducible rfl)
      simp only [Act.put, List.setIfInBounds_toArray, List.set_cons_zero, List.set_cons_succ]
      apply wpR_next 4 (some 18)
      · simp only [List.getElem?_toArray, List.getElem?_cons_succ, List.getElem?_cons_zero]; exact rfl
      · rfl
      · kernel_rfl
      · kernel_rfl
      · kernel_rfl
      · exact fun _ _ _ _ h => h
      apply Exists.intro
      apply And.intro
      · apply yr_run; rfl; intro w' hw'; go_simp; (try with_reducible rfl)
      simp only [Act.put, List.setIfInBounds_toArray, List.set_cons_zero, List.set_cons_succ]
      apply wpR_next 5 (some 19)
      · simp only [List.getElem?_toArray, List.getElem?_cons_succ, List.getElem?_cons_zero]; exact rfl
      · rfl
      · kernel_rfl
      · kernel_rfl
      · kernel_rfl
      · exact fun _ _ _ _ h => h
      apply Exists.intro
      apply And.intro
      · apply yr_run; rfl; intro w' hw'; go_simp; (try with_reducible rfl)
      simp only [Act.put, List.setIfInBounds_toArray, List.set_cons_zero, List.set_cons_succ]
      apply wpR_next 6 (some 20)
      · simp only [List.getElem?_toArray, List.getElem?_cons_succ, List.getElem?_cons_zero]; exact rfl
      · rfl
      · kernel_rfl
      · kernel_rfl
      · kernel_rfl
      · exact fun _ _ _ _ h => h
      apply Exists.intro
      apply And.intro
      · apply yr_run; rfl; intro w' hw'; go_simp; (try with_reducible rfl)
      simp only [Act.put, List.setIfInBounds_toArray, List.set_cons_zero, List.set_cons_succ]
      apply wpR_next 7 (some 21)
      · simp only [List.getElem?_toArray, List.getElem?_cons_succ, List.getElem?_cons_zero]; exact rfl
      · rfl
      · kernel_rfl
      · kernel_rfl
      · kernel_rfl
      · exact fun _ _ _ _ h => h
      apply Exists.intro
      apply And.intro
      · apply yr_call; rfl; rotate_left; intro w' hw'; exact HI.out w' hw'; intro w'; go_simp
      simp only [Act.put, List.setIfInBounds_toArray, List.set_cons_zero, List.set_cons_succ]
      apply wpR_next 8 (some 22)
      · simp only [List.getElem?_toArray, List.getElem?_cons_succ, List.getElem?_cons_zero]; exact rfl
      · rfl
      · kernel_rfl
      · kernel_rfl
      · kernel_rfl
      · exact fun _ _ _ _ h => h
      apply Exists.intro
      apply And.intro
      · apply yr_run; rfl; intro w' hw'; go_simp; (try with_reducible rfl)
      simp only [Act.put, List.setIfInBounds_toArray, List.set_cons_zero, List.set_cons_succ]
      refine wpR_done (by kernel_rfl) ?_ _
      intro W3 hw3
      have HX03 := Lib.hid (HX0.out.dr.bl hw3)
      have HX13 := Lib.hid (HX1.out.dr.bl hw3)
      have HX23 := Lib.hid (HX2.out.dr.bl hw3)
      have HE3 : RowKit.Hid (Below wo.heap.size wo W3) := Lib.hid (bel_bl (bel_dr (Below.refl _ _)) hw3)
      have HB3 := Lib.hid (bel_bl HB.out HE3.out)
      clear hw3 ldb ldx ldy ldz ldr HB HX0 HX1 HX2 HI
      by_cases hmem : (x1, x2, x3) ∈ rL
      · have e1 : idxD rL (x1, x2, x3) = (rL.idxOf (x1, x2, x3) : Int) := by rw [idxD, if_pos hmem]
        have h0 : 0 ≤ ix := by rw [← Gix.out, e1]; omega
        have hG := HG2.out
        rw [atV_yes _ _ _ hmem] at hG
        simp only [Prod.mk.injEq] at hG
        obtain ⟨⟨rfl, rfl⟩, rfl⟩ := hG
        obtain ⟨l0, l1⟩ := HE.out
        have y0 := (HE3.out.cell (p := ⟨bb, off + j * 5, none⟩) Hbo.out).trans l0
        have y1 := (HE3.out.cell (p := ⟨bb, off + j * 5 + 1, none⟩) Hbo.out).trans l1
        have cb := HX03.out.cell (i := 0) rfl
        have f0 := HX23.out.free 0
        have f1 := HX23.out.free 1
        have k0 := HX23.out.cell (i := 0) rfl
        have k1 := HX23.out.cell (i := 1) rfl
        have HY := Lib.hid ((HX23.out.set_ 0 (.int .i64 i1)).set_ 1 (.int .i64 i2))
        have HBf := Lib.hid ((HB3.out.setCell (p := ⟨b2, 0, none⟩) Lb2.out (.int .i64 i1)).setCell (p := ⟨b2, 1, none⟩) Lb2.out (.int .i64 i2))
        clear HX23 HG2 HB3 HE HE3 l0 l1
        go_wp2
        exact ret_whole2 rfl b2 rfl rfl HY.out Try.underlying30 rfl (by kernel_rfl) rfl ⟨rfl, HBf.out⟩
      · have h0 : ¬ 0 ≤ ix := by rw [← Gix.out, show idxD rL (x1, x2, x3) = -1 by rw [idxD, if_neg hmem]]; omega
        have hG := HG2.out
        rw [atV_no _ _ _ hmem] at hG
        have HG4 := Lib.hid hG
        clear hG HG2 HE HE3
        go_wp2
        go_roundw
        case rel => exact ⟨j + 1, by omega, by go_num, HB3, HX03, HX13, HX23, HG4⟩
        case measure => simp [intOf]; omega
    · obtain rfl : n = j := by omega
      have hG := HG.out
      rw [List.drop_eq_nil_of_le (by have := Hl.out; omega)] at hG
      replace hG : (((0 : Int), (0 : Int)), false) = ((r1, r2), r3) := hG
      simp only [Prod.mk.injEq] at hG
      obtain ⟨⟨rfl, rfl⟩, rfl⟩ := hG
      have cb := HX0.out.cell (i := 0) rfl
      have f0 := HX2.out.free 0
      have f1 := HX2.out.free 1
      have k0 := HX2.out.cell (i := 0) rfl
      have k1 := HX2.out.cell (i := 1) rfl
      have HY := Lib.hid ((HX2.out.set_ 0 (.int .i64 0)).set_ 1 (.int .i64 0))
      have HBf := Lib.hid ((HB.out.setCell (p := ⟨b2, 0, none⟩) Lb2.out (.int .i64 0)).setCell (p := ⟨b2, 1, none⟩) Lb2.out (.int .i64 0))
      clear HG HX2
      go_wp2
      exact ret_whole2 rfl b2 rfl rfl HY.out Try.underlying30 rfl (by kernel_rfl) rfl ⟨rfl, HBf.out⟩
end Go.Proofs.Ytkhklhipiiehbaa

/- The document's rise, IDs, Names. -/
namespace Go.Proofs.Ytkhklhipiiehbaa
open Go.RowKit
set_option linter.unusedSimpArgs false
set_option linter.unusedVariables false

end Go.Proofs.Ytkhklhipiiehbaa

/- The document's rings. -/
namespace Go.Proofs.Ytkhklhipiiehbaa
open Go.RowKit
set_option linter.unusedSimpArgs false
set_option linter.unusedVariables false


end Go.Proofs.Ytkhklhipiiehbaa

/- The document's Form. -/
namespace Go.Proofs.Ytkhklhipiiehbaa
open Go.RowKit
set_option linter.unusedSimpArgs false
set_option linter.unusedVariables false


end Go.Proofs.Ytkhklhipiiehbaa

/- What the document asks of rings is what the program asks: each dart of an edge once, and no other. -/
namespace Go.Proofs.Ytkhklhipiiehbaa
open Go.RowKit
set_option linter.unusedSimpArgs false
set_option linter.unusedVariables false

end Go.Proofs.Ytkhklhipiiehbaa

/- The document's Same. -/
namespace Go.Proofs.Ytkhklhipiiehbaa
open Go.RowKit
set_option linter.unusedSimpArgs false
set_option linter.unusedVariables false

end Go.Proofs.Ytkhklhipiiehbaa

/- Clone. -/
namespace Go.Proofs.Ytkhklhipiiehbaa
open Go.RowKit
set_option linter.unusedSimpArgs false
set_option linter.unusedVariables false


/-- Rings of one's own, each behind the one ahead, from block lo on. -/
structure RgsOwn (W : World) (lo : Nat) (Ws : List VC) : Prop where
  own : ∀ x ∈ Ws, W.ownsRow lo 32 3 (.slice x.2.1.1 x.2.1.2.1 x.2.1.2.2.1) x.2.1.2.1 (dartsV x.2.1.2.2.2)
  rise : ∀ (i j : Nat) (x y : VC) (a b : Addr), i < j → Ws[i]? = some x → Ws[j]? = some y → x.2.1.1 = some a → y.2.1.1 = some b → a.block < b.block
/-- A diagram of one's own. -/
structure Cl (W : World) (lo : Nat) (A : Option Addr) (n c : Nat) (Ws : List VC) (B : Option Addr) (m k : Nat) (Es : List EC) : Prop where
  v : W.ownsRow lo 53 5 (.slice A n c) n (rowsV vC Ws)
  e : W.ownsRow lo 65 4 (.slice B m k) m (rowsV eC Es)
  r : RgsOwn W lo Ws
theorem Cl.dg {W : World} {lo : Nat} {A : Option Addr} {n c : Nat} {Ws : List VC} {B : Option Addr} {m k : Nat} {Es : List EC} (h : Cl W lo A n c Ws B m k Es) : DgIn W A n c Ws B m k Es :=
  ⟨own_rds h.v, own_rds h.e, fun x hx => ⟨own_cap (h.r.own x hx), own_rds (h.r.own x hx)⟩⟩
theorem RgsOwn.up {W W' : World} {lo : Nat} {Ws : List VC} (h : RgsOwn W lo Ws) (hb : Below W.heap.size W W') : RgsOwn W' lo Ws :=
  ⟨fun x hx => own_up (h.own x hx) hb, h.rise⟩
theorem Cl.up {W W' : World} {lo : Nat} {A : Option Addr} {n c : Nat} {Ws : List VC} {B : Option Addr} {m k : Nat} {Es : List EC} (h : Cl W lo A n c Ws B m k Es) (hb : Below W.heap.size W W') : Cl W' lo A n c Ws B m k Es :=
  ⟨own_up h.v hb, own_up h.e hb, h.r.up hb⟩
theorem RgsOwn.cells {W : World} {lo g : Nat} {Ws : List VC} {T : TypeId} {cs : List Value} (h : RgsOwn W lo Ws) (hw : Whole W g T cs) (hT : T ≠ 32) (o : Nat) (vs : List Value) : RgsOwn (W.setCells g o vs) lo Ws :=
  ⟨fun x hx => own_cells_far (h.own x hx) (own_ne (h.own x hx) hw hT) o vs, h.rise⟩
theorem RgsOwn.nil_ (W : World) (lo : Nat) : RgsOwn W lo [] := ⟨fun x hx => (by cases hx), fun i j x y a b _ h => (by simp at h)⟩
end Go.Proofs.Ytkhklhipiiehbaa

/- Words for the laws over diagrams. -/
namespace Go.Proofs.Ytkhklhipiiehbaa
open Go.RowKit
set_option linter.unusedSimpArgs false
set_option linter.unusedVariables false

section
variable {w w' : World} {A B : Option Addr} {n c m k : Nat} {Vs : List VC} {Es : List EC}
theorem DgIn.bl (h : DgIn w A n c Vs B m k Es) (hb : Below w.heap.size w w') : DgIn w' A n c Vs B m k Es := h.below hb
theorem DgIn.al (h : DgIn w A n c Vs B m k Es) (o : Obj) : DgIn (w.alloc o) A n c Vs B m k Es := h.below (below1 w o)
theorem DgIn.dr (h : DgIn w A n c Vs B m k Es) : DgIn w.drew A n c Vs B m k Es := h.below (below_drewN w.heap.size w 1)
theorem DgIn.far (h : DgIn w A n c Vs B m k Es) (g i : Nat) (u : Value) (ha : ∀ a, A = some a → 0 < n → a.block ≠ g) (hb : ∀ a, B = some a → 0 < m → a.block ≠ g) (hr : ∀ x ∈ Vs, ∀ a, x.2.1.1 = some a → 0 < x.2.1.2.1 → a.block ≠ g) :
    DgIn (w.setCell ⟨g, i, none⟩ u) A n c Vs B m k Es := by
  have hs : (w.setCell ⟨g, i, none⟩ u).heap.size = w.heap.size := by simp [World.setCell]
  exact ⟨by rw [hs]; exact h.v.far_ ha u, by rw [hs]; exact h.e.far_ hb u, fun x hx => ⟨(h.r x hx).1, by rw [hs]; exact (h.r x hx).2.far_ (hr x hx) u⟩⟩
end
theorem RgOk.bl {w w' : World} {r : Rg} (h : RgOk w r) (hb : Below w.heap.size w w') : RgOk w' r := h.below hb
theorem RgOk.al {w : World} {r : Rg} (h : RgOk w r) (o : Obj) : RgOk (w.alloc o) r := h.below (below1 w o)
theorem RgOk.dr {w : World} {r : Rg} (h : RgOk w r) : RgOk w.drew r := h.below (below_drewN w.heap.size w 1)
structure GoodD (Vs : List VC) (Es : List EC) : Prop where
  v : ∀ x ∈ Vs, ∀ d ∈ x.2.1.2.2.2, wfD d
  e : ∀ e ∈ Es, wfD (e.1.1, e.1.2, 0) ∧ wfD (e.1.1, e.1.2, 1)
  lv : ∀ x ∈ Vs, x.2.2.1.size ≤ maxLen
  le : ∀ x ∈ Es, x.2.1.size ≤ maxLen
theorem fewV_ring (v : VC) : (fewV v).2.1.1 = v.2.1.1 ∧ (fewV v).2.1.2.1 ≤ 30 ∧ (fewV v).2.1.2.1 ≤ v.2.1.2.1 ∧ (fewV v).1 = v.1 ∧ (fewV v).2.2 = v.2.2 ∧ ∀ d ∈ (fewV v).2.1.2.2.2, d ∈ v.2.1.2.2.2 := by
  unfold fewV
  split
  · exact ⟨rfl, Nat.le_refl _, by show 30 ≤ _; omega, rfl, rfl, fun d hd => List.mem_of_mem_take hd⟩
  · exact ⟨rfl, by omega, Nat.le_refl _, rfl, rfl, fun d hd => hd⟩
theorem GoodD.few {Vs : List VC} {Es : List EC} (h : GoodD Vs Es) : GoodD ((Vs.take 30).map fewV) (Es.take 50) := by
  refine ⟨fun x hx d hd => ?_, fun e he => h.e e (List.mem_of_mem_take he), fun x hx => ?_, fun e he => h.le e (List.mem_of_mem_take he)⟩
  · obtain ⟨y, hy, rfl⟩ := List.mem_map.1 hx
    exact h.v y (List.mem_of_mem_take hy) d ((fewV_ring y).2.2.2.2.2 d hd)
  · obtain ⟨y, hy, rfl⟩ := List.mem_map.1 hx
    have := h.lv y (List.mem_of_mem_take hy)
    rw [(fewV_ring y).2.2.2.2.1]
    exact this
/-- What few tells. -/
structure FewD (w0 W W' : World) (A : Option Addr) (n c : Nat) (Vs : List VC) (B : Option Addr) (m k : Nat) (Es : List EC) : Prop where
  dg : DgIn W' A n c Vs B m k Es
  good : GoodD Vs Es
  n30 : n ≤ 30
  m50 : m ≤ 50
  r30 : ∀ x ∈ Vs, x.2.1.2.1 ≤ 30
  low : ∀ x ∈ Vs, ∀ a, x.2.1.1 = some a → 0 < x.2.1.2.1 → a.block < w0.heap.size
  fresh : FwNew W A n c B m k
  lenv : Vs.length = n
  lene : Es.length = m
/-- The diagram that few told is put into a variable of the call's own. -/
theorem FewD.put {w0 W W' : World} {A B : Option Addr} {n c m k g : Nat} {Vs : List VC} {Es : List EC} (h : FewD w0 W W' A n c Vs B m k Es) (hg0 : w0.heap.size ≤ g) (hg : g < W.heap.size) (u v : Value) :
    DgIn ((W'.setCell ⟨g, 0, none⟩ u).setCell ⟨g, 1, none⟩ v) A n c Vs B m k Es := by
  have ha : ∀ a, A = some a → 0 < n → a.block ≠ g := fun a e h0 => by have := h.fresh.2.2.1 a e h0; omega
  have hb : ∀ a, B = some a → 0 < m → a.block ≠ g := fun a e h0 => by have := h.fresh.2.2.2 a e h0; omega
  have hr : ∀ x ∈ Vs, ∀ a, x.2.1.1 = some a → 0 < x.2.1.2.1 → a.block ≠ g := fun x hx a e h0 => by have := h.low x hx a e h0; omega
  exact (h.dg.far g 0 u ha hb hr).far g 1 v ha hb hr
/-- Another one, of before, behind a store to a variable. -/
theorem DgIn.put {W : World} {A B : Option Addr} {n c m k g : Nat} {Vs : List VC} {Es : List EC} (h : DgIn W A n c Vs B m k Es) (ha : ∀ a, A = some a → 0 < n → a.block ≠ g) (hb : ∀ a, B = some a → 0 < m → a.block ≠ g) (hr : ∀ x ∈ Vs, ∀ a, x.2.1.1 = some a → 0 < x.2.1.2.1 → a.block ≠ g) (u v : Value) :
    DgIn ((W.setCell ⟨g, 0, none⟩ u).setCell ⟨g, 1, none⟩ v) A n c Vs B m k Es := (h.far g 0 u ha hb hr).far g 1 v ha hb hr
end Go.Proofs.Ytkhklhipiiehbaa

/- The law's state: what few and rising leave, and what is told of it. -/
namespace Go.Proofs.Ytkhklhipiiehbaa
open Go.RowKit
set_option linter.unusedSimpArgs false
set_option linter.unusedVariables false

theorem cutV_from (v : VC) : (cutV v).2.1.1 = v.2.1.1 ∧ (cutV v).2.1.2.1 ≤ v.2.1.2.1 := by
  unfold cutV
  split
  · rename_i h; exact ⟨rfl, by show 82 ≤ _; omega⟩
  · exact ⟨rfl, Nat.le_refl _⟩
/-- A diagram none of whose blocks is b0. -/
structure DgAway (W : World) (b0 : Nat) (A : Option Addr) (n c : Nat) (V : List VC) (B : Option Addr) (m k : Nat) (E : List EC) : Prop where
  dg : DgIn W A n c V B m k E
  n26 : n ≤ 26
  r82 : ∀ y ∈ V, y.2.1.2.1 ≤ 82
  ha : ∀ a, A = some a → 0 < n → a.block ≠ b0
  hb : ∀ a, B = some a → 0 < m → a.block ≠ b0
  hr : ∀ x ∈ V, ∀ a, x.2.1.1 = some a → 0 < x.2.1.2.1 → a.block ≠ b0
/-- Darts that are gone, none of whose blocks is b0. -/
structure GnAway (W : World) (b0 : Nat) (C : Option Addr) (g gc : Nat) (G : List Gn) : Prop where
  gn : RdS W W.heap.size 6 C g gc (rowsV gnC G)
  ha : ∀ a, C = some a → 0 < g → a.block ≠ b0
section
variable {W W' w0 : World} {b0 : Nat} {A B C : Option Addr} {n c m k g gc : Nat} {V : List VC} {E : List EC} {G : List Gn}
theorem DgAway.below (h : DgAway W b0 A n c V B m k E) (hb : Below W.heap.size W W') : DgAway W' b0 A n c V B m k E := ⟨h.dg.below hb, h.n26, h.r82, h.ha, h.hb, h.hr⟩
theorem DgAway.set (h : DgAway W b0 A n c V B m k E) (i : Nat) (u : Value) : DgAway (W.setCell ⟨b0, i, none⟩ u) b0 A n c V B m k E := ⟨h.dg.far b0 i u h.ha h.hb h.hr, h.n26, h.r82, h.ha, h.hb, h.hr⟩
theorem GnAway.below (h : GnAway W b0 C g gc G) (hb : Below W.heap.size W W') : GnAway W' b0 C g gc G := ⟨h.gn.bl hb, h.ha⟩
theorem GnAway.set (h : GnAway W b0 C g gc G) (i : Nat) (u : Value) : GnAway (W.setCell ⟨b0, i, none⟩ u) b0 C g gc G := ⟨(h.gn.far_ h.ha u).up (Below.refl _ _) (by simp [World.setCell]), h.ha⟩
theorem GnAway.take (h : GnAway W b0 C g gc G) (N : Nat) (hN : N ≤ g) : GnAway W b0 C N gc (G.take N) := ⟨by
  have e := h.gn.take_ N hN
  rw [← rowsV_take gnC gnC_len] at e
  exact e, fun a ha h0 => h.ha a ha (by omega)⟩
theorem few11_step (h : DgIn w0 A n c V B m k E) (hg : RdS w0 w0.heap.size 6 C g gc (rowsV gnC G)) (hn : n ≤ maxLen) (hm : m ≤ maxLen) (hgl : g ≤ maxLen) (hb : Below w0.heap.size w0 W) (h0 : w0.heap.size ≤ b0) (h1 : b0 < W.heap.size) :
    Calls Try.prog 8 #[.agg #[.slice A n c, .slice B m k, .slice C g gc]] W fun e W' => ∃ A' n' c' B' m' k' C' g' gc', e = .returned (.agg #[.slice A' n' c', .slice B' m' k', .slice C' g' gc']) ∧ DgAway W' b0 A' n' c' (fewVs V) B' m' k' (E.take 42) ∧ GnAway W' b0 C' g' gc' (G.take 410) ∧ g' ≤ 410 ∧ Below W.heap.size W W' := by
  refine (few11_any A n c V B m k E C g gc G W (h.below hb) (hg.bl hb) hn hm hgl).mono ?_
  rintro e W' ⟨A', c', B', k', C', g', rfl, hd, hgn, hbl, f1, f2, f3⟩
  refine ⟨A', _, c', B', _, k', C', _, g', rfl, ⟨hd, fewVs_len V, fewVs_short V, fun a ha hp => by have := f1 a ha hp; omega, fun a ha hp => by have := f2 a ha hp; omega, fun x hx a ha hp => ?_⟩, ⟨hgn, fun a ha hp => by have := f3 a ha hp; omega⟩, by rw [List.length_take]; omega, hbl⟩
  obtain ⟨y, hy, rfl⟩ := List.mem_map.1 hx
  rw [(cutV_from y).1] at ha
  have := (h.r y (List.mem_of_mem_take hy)).2.low a ha (Nat.lt_of_lt_of_le hp (cutV_from y).2)
  omega
theorem rising_step (h : GnAway W b0 C g gc G) (hg : g ≤ 410) (h1 : b0 < W.heap.size) :
    Calls Try.prog 9 #[.slice C g gc] W fun e W' => ∃ C' g' gc', e = .returned (.slice C' g' gc') ∧ GnAway W' b0 C' g' gc' (risG G) ∧ g' ≤ 410 ∧ (risG G).length = g' ∧ Below W.heap.size W W' := by
  refine (rising_any C g gc G W h.gn (by omega)).mono ?_
  rintro e W' ⟨C', g', rfl, hgn, hbl, f1⟩
  have hl := h.gn.rlen gnC_len (by decide)
  have h2 := risA_len G []
  exact ⟨C', _, g', rfl, ⟨hgn, fun a ha hp => by have := f1 a ha hp; omega⟩, by unfold risG; simp at h2; omega, rfl, hbl⟩
/-- The law's state. -/
structure StIn (W : World) (b0 : Nat) (A : Option Addr) (n c : Nat) (V : List VC) (B : Option Addr) (m k : Nat) (E : List EC) (C : Option Addr) (g gc : Nat) (G : List Gn) : Prop where
  dg : DgIn W A n c V B m k E
  gn : RdS W W.heap.size 6 C g gc (rowsV gnC G)
  box : Whole W b0 28 [.slice A n c, .slice B m k, .slice C g gc]
  n26 : n ≤ 26
  r82 : ∀ y ∈ V, y.2.1.2.1 ≤ 82
  g390 : g ≤ 390
theorem StIn.below (h : StIn W b0 A n c V B m k E C g gc G) (hb : Below W.heap.size W W') : StIn W' b0 A n c V B m k E C g gc G := ⟨h.dg.below hb, h.gn.bl hb, h.box.below hb, h.n26, h.r82, h.g390⟩
theorem StIn.len (h : StIn W b0 A n c V B m k E C g gc G) : G.length = g := h.gn.rlen gnC_len (by decide)
theorem StIn.short (h : StIn W b0 A n c V B m k E C g gc G) : ∀ y ∈ V, y.2.1.2.1 ≤ 1000000 := fun y hy => by have := h.r82 y hy; omega
theorem StIn.cor_no (h : StIn W b0 A n c V B m k E C g gc G) {x : Int × Int} (hv : (fndV V x).2 = false) (d : D) :
    Calls Try.prog 14 #[.agg #[.slice A n c, .slice B m k, .slice C g gc], .agg #[.int .i64 x.1, .int .i64 x.2, .int .i64 d.1, .int .i64 d.2.1, .int .i64 d.2.2]] W fun e w' => e = .returned (.tuple #[.agg #[.int .i64 0, .int .i64 0, .int .i64 0, .int .i64 0, .int .i64 0], .int .i64 13]) ∧ Below W.heap.size W w' :=
  corner_no A n c V B m k E C g gc G x.1 x.2 d.1 d.2.1 d.2.2 W h.dg (by have := h.n26; omega) h.short h.gn (by have := h.g390; omega) hv
theorem StIn.cor_yes (h : StIn W b0 A n c V B m k E C g gc G) {x : Int × Int} (hv : (fndV V x).2 = true) (d : D) {z : D} (hz : nearC V G g x d = z) :
    Calls Try.prog 14 #[.agg #[.slice A n c, .slice B m k, .slice C g gc], .agg #[.int .i64 x.1, .int .i64 x.2, .int .i64 d.1, .int .i64 d.2.1, .int .i64 d.2.2]] W fun e w' => e = .returned (.tuple #[.agg #[.int .i64 x.1, .int .i64 x.2, .int .i64 z.1, .int .i64 z.2.1, .int .i64 z.2.2], .int .i64 0]) ∧ Below W.heap.size W w' := by
  have e := corner_yes A n c V B m k E C g gc G x.1 x.2 d.1 d.2.1 d.2.2 W h.dg (by have := h.n26; omega) h.short h.gn (by have := h.g390; omega) hv
  rw [show nearC V G g (x.1, x.2) (d.1, d.2.1, d.2.2) = z from hz] at e
  exact e
theorem StIn.res (h : StIn W b0 A n c V B m k E C g gc G) (d : D) {z : D} (hz : resG (stV V) G g d = z) :
    Calls Try.prog 10 #[.agg #[.slice A n c, .slice B m k, .slice C g gc], .agg #[.int .i64 d.1, .int .i64 d.2.1, .int .i64 d.2.2]] W fun e w' => e = .returned (.agg #[.int .i64 z.1, .int .i64 z.2.1, .int .i64 z.2.2]) ∧ Below W.heap.size W w' := by
  have e := res_any A n c V B m k E C g gc G d W h.dg (by have := h.n26; omega) h.short h.gn (by have := h.g390; omega)
  rw [hz] at e
  exact e
theorem StIn.find (h : StIn W b0 A n c V B m k E C g gc G) (d : D) {z : D} {ok : Bool} (hz : findG G d = (z, ok)) :
    Calls Try.prog 13 #[.slice C g gc, .agg #[.int .i64 d.1, .int .i64 d.2.1, .int .i64 d.2.2]] W fun e w' => e = .returned (.tuple #[.agg #[.int .i64 z.1, .int .i64 z.2.1, .int .i64 z.2.2], .bool ok]) ∧ Below W.heap.size W w' := by
  have e := find_any C g gc G d W h.gn (by have := h.g390; omega)
  rw [hz] at e
  exact e
theorem StIn.rat (h : StIn W b0 A n c V B m k E C g gc G) (d : D) {ok : Bool} (hz : stV V d = ok) :
    Calls Try.prog 11 #[.agg #[.slice A n c, .slice B m k], .agg #[.int .i64 d.1, .int .i64 d.2.1, .int .i64 d.2.2]] W fun e w' => ∃ i1 i2 : Int, e = .returned (.tuple #[.agg #[.int .i64 i1, .int .i64 i2], .bool ok]) ∧ Below W.heap.size W w' := by
  refine (rat_any A n c V B m k E d.1 d.2.1 d.2.2 W h.dg (by have := h.n26; omega) (fun y hy => by have := h.r82 y hy; omega)).mono ?_
  rintro e w' ⟨rfl, hb⟩
  exact ⟨_, _, by rw [← hz]; rfl, hb⟩
theorem StIn.rvert (h : StIn W b0 A n c V B m k E C g gc G) (x : Int × Int) {r : VC} {ok : Bool} (hz : fndV V x = (r, ok)) :
    Calls Try.prog 15 #[.agg #[.slice A n c, .slice B m k], .agg #[.int .i64 x.1, .int .i64 x.2]] W fun e w' => e = .returned (.tuple #[.agg (vC r).toArray, .bool ok]) ∧ Below W.heap.size W w' := by
  have e := rfindV A n c V B m k E x.1 x.2 W h.dg.v (by have := h.n26; omega)
  rw [show fndV V (x.1, x.2) = (r, ok) from hz] at e
  exact e
theorem StIn.ring (h : StIn W b0 A n c V B m k E C g gc G) (x : Int × Int) {r : VC} {ok : Bool} (hz : fndV V x = (r, ok)) (d : D) {i : Int} (hi : idxD r.2.1.2.2.2 d = i) :
    Calls Try.prog 16 #[.slice r.2.1.1 r.2.1.2.1 r.2.1.2.2.1, .agg #[.int .i64 d.1, .int .i64 d.2.1, .int .i64 d.2.2]] W fun e w' => e = .returned (.int .i64 i) ∧ Below W.heap.size W w' := by
  have hr := fndV_ring h.dg h.short x
  rw [hz] at hr
  have e := rfindex_any r.2.1.1 r.2.1.2.1 r.2.1.2.2.1 r.2.1.2.2.2 d W hr.1.2 (Nat.le_trans hr.2 (by decide))
  rw [hi] at e
  exact e
end
/-- A dart of a vertex that is there stands. -/
theorem stV_mem {V : List VC} {x : Int × Int} {r : VC} (hz : fndV V x = (r, true)) {d : D} (hd : d ∈ r.2.1.2.2.2) : stV V d = true := by
  have hm : r ∈ V := by
    rcases fnd_mem (fun v : VC => v.1) zV V x with hm | he
    · have e : (fndV V x).1 ∈ V := hm
      rw [hz] at e
      exact e
    · have e : fndV V x = (zV, false) := he
      rw [hz] at e
      cases e
  unfold stV atV
  have : ∃ v, V.find? (fun v => decide (d ∈ v.2.1.2.2.2)) = some v := by
    cases hf : V.find? (fun v => decide (d ∈ v.2.1.2.2.2)) with
    | some v => exact ⟨v, rfl⟩
    | none => exact absurd (List.find?_eq_none.1 hf r hm) (by simpa using hd)
  obtain ⟨v, hv⟩ := this
  rw [hv]
end Go.Proofs.Ytkhklhipiiehbaa

/- AnchorNear. -/
namespace Go.Proofs.Ytkhklhipiiehbaa
open Go.RowKit
set_option linter.unusedSimpArgs false
set_option linter.unusedVariables false

section
variable {W W' w0 : World} {b0 : Nat} {A B C : Option Addr} {n c m k g gc : Nat} {V : List VC} {E : List EC} {G : List Gn} {x1 x2 d1 d2 d3 z1 z2 z3 i1 i2 at_ ix : Int} {rA : Option Addr} {rn rc : Nat} {rL : List D} {lb : ByteArray} {ok : Bool}
theorem StIn.cor_no5 (h : StIn W b0 A n c V B m k E C g gc G) (hv : (fndV V (x1, x2)).2 = false) :
    Calls Try.prog 14 #[.agg #[.slice A n c, .slice B m k, .slice C g gc], .agg #[.int .i64 x1, .int .i64 x2, .int .i64 d1, .int .i64 d2, .int .i64 d3]] W fun e w' => e = .returned (.tuple #[.agg #[.int .i64 0, .int .i64 0, .int .i64 0, .int .i64 0, .int .i64 0], .int .i64 13]) ∧ Below W.heap.size W w' := h.cor_no hv (d1, d2, d3)
theorem StIn.cor_yes5 (h : StIn W b0 A n c V B m k E C g gc G) (hv : (fndV V (x1, x2)).2 = true) (hz : nearC V G g (x1, x2) (d1, d2, d3) = (z1, z2, z3)) :
    Calls Try.prog 14 #[.agg #[.slice A n c, .slice B m k, .slice C g gc], .agg #[.int .i64 x1, .int .i64 x2, .int .i64 d1, .int .i64 d2, .int .i64 d3]] W fun e w' => e = .returned (.tuple #[.agg #[.int .i64 x1, .int .i64 x2, .int .i64 z1, .int .i64 z2, .int .i64 z3], .int .i64 0]) ∧ Below W.heap.size W w' := h.cor_yes hv (d1, d2, d3) hz
theorem StIn.res5 (h : StIn W b0 A n c V B m k E C g gc G) (hz : resG (stV V) G g (d1, d2, d3) = (z1, z2, z3)) :
    Calls Try.prog 10 #[.agg #[.slice A n c, .slice B m k, .slice C g gc], .agg #[.int .i64 d1, .int .i64 d2, .int .i64 d3]] W fun e w' => e = .returned (.agg #[.int .i64 z1, .int .i64 z2, .int .i64 z3]) ∧ Below W.heap.size W w' := h.res (d1, d2, d3) hz
theorem StIn.find5 (h : StIn W b0 A n c V B m k E C g gc G) (hz : findG G (d1, d2, d3) = ((z1, z2, z3), ok)) :
    Calls Try.prog 13 #[.slice C g gc, .agg #[.int .i64 d1, .int .i64 d2, .int .i64 d3]] W fun e w' => e = .returned (.tuple #[.agg #[.int .i64 z1, .int .i64 z2, .int .i64 z3], .bool ok]) ∧ Below W.heap.size W w' := h.find (d1, d2, d3) hz
theorem StIn.rat5 (h : StIn W b0 A n c V B m k E C g gc G) (hz : stV V (d1, d2, d3) = ok) :
    Calls Try.prog 11 #[.agg #[.slice A n c, .slice B m k], .agg #[.int .i64 d1, .int .i64 d2, .int .i64 d3]] W fun e w' => ∃ i1 i2 : Int, e = .returned (.tuple #[.agg #[.int .i64 i1, .int .i64 i2], .bool ok]) ∧ Below W.heap.size W w' := h.rat (d1, d2, d3) hz
theorem StIn.rvert5 (h : StIn W b0 A n c V B m k E C g gc G) (hz : fndV V (x1, x2) = (((i1, i2), (rA, rn, rc, rL), lb, at_), ok)) :
    Calls Try.prog 15 #[.agg #[.slice A n c, .slice B m k], .agg #[.int .i64 x1, .int .i64 x2]] W fun e w' => e = .returned (.tuple #[.agg #[.int .i64 i1, .int .i64 i2, .slice rA rn rc, .string lb, .int .i64 at_], .bool ok]) ∧ Below W.heap.size W w' := h.rvert (x1, x2) hz
theorem StIn.ring5 (h : StIn W b0 A n c V B m k E C g gc G) (hz : fndV V (x1, x2) = (((i1, i2), (rA, rn, rc, rL), lb, at_), ok)) (hi : idxD rL (d1, d2, d3) = ix) :
    Calls Try.prog 16 #[.slice rA rn rc, .agg #[.int .i64 d1, .int .i64 d2, .int .i64 d3]] W fun e w' => e = .returned (.int .i64 ix) ∧ Below W.heap.size W w' := h.ring (x1, x2) hz (d1, d2, d3) hi
end
theorem eq_cor_self (a b c d e : Int) (W : World) : (binOp .eql 34 (.agg #[.int .i64 a, .int .i64 b, .int .i64 c, .int .i64 d, .int .i64 e]) (.agg #[.int .i64 a, .int .i64 b, .int .i64 c, .int .i64 d, .int .i64 e])).run Try.prog W = .ok (.bool true) W := by
  simp [go_sem]
theorem eq_dart_self (a b c : Int) (W : World) : (binOp .eql 32 (.agg #[.int .i64 a, .int .i64 b, .int .i64 c]) (.agg #[.int .i64 a, .int .i64 b, .int .i64 c])).run Try.prog W = .ok (.bool true) W := by
  have e := eq_dart_run (a, b, c) (a, b, c) W
  rw [decide_eq_true rfl] at e
  exact e
theorem eq_id_self (a b : Int) (W : World) : (binOp .eql 30 (.agg #[.int .i64 a, .int .i64 b]) (.agg #[.int .i64 a, .int .i64 b])).run Try.prog W = .ok (.bool true) W :=
  (eq_id a b a b W).trans (by simp)
theorem near_in {V : List VC} {G : List Gn} {g : Nat} {x : Int × Int} {r : VC} (hz : fndV V x = (r, true)) {d : D} (hd : d ∈ r.2.1.2.2.2) : nearC V G g x d = d ∧ resG (stV V) G g d = d := by
  have hr := resG_self (stV V) G g (stV_mem hz hd)
  refine ⟨?_, hr⟩
  unfold nearC
  rw [hz, hr, if_pos hd]
end Go.Proofs.Ytkhklhipiiehbaa

/- slices.BinarySearchFunc: where a dart that is gone stands. -/
namespace Go.Proofs.Ytkhklhipiiehbaa
open Go.RowKit
set_option linter.unusedSimpArgs false
set_option linter.unusedVariables false

set_option maxRecDepth 100000 in
theorem addcmp_any (x : Gn) (d1 d2 d3 : Int) (w : World) : Calls Try.prog 24 #[.agg #[.int .i64 x.1.1, .int .i64 x.1.2.1, .int .i64 x.1.2.2, .int .i64 x.2.1, .int .i64 x.2.2.1, .int .i64 x.2.2.2], .agg #[.int .i64 d1, .int .i64 d2, .int .i64 d3]] w fun e w' => e = .returned (.int .i64 (ordD x.1.1 x.1.2.1 x.1.2.2 d1 d2 d3)) ∧ Below w.heap.size w w' := by
  have HO := Lib.hid (orderdart_any x.1.1 x.1.2.1 x.1.2.2 d1 d2 d3)
  go_enter Try.func24, Try.ntmps24
  go_wp2_with (first
    | (go_at_call 25
       refine (HO.out _).mono ?_
       rintro e w2 ⟨rfl, hb⟩
       have HB := Lib.hid (bel_bl (bel_al (below1 w (.cells #[.int .i64 x.1.1, .int .i64 x.1.2.1, .int .i64 x.1.2.2, .int .i64 x.2.1, .int .i64 x.2.2.1, .int .i64 x.2.2.2] 36)) (.cells #[.int .i64 d1, .int .i64 d2, .int .i64 d3] 32)) hb)
       clear hb))
  go_ret
  exact ⟨rfl, HB.out⟩
set_option maxRecDepth 100000 in
set_option maxHeartbeats 4000000 in
theorem bsearch_any (A : Option Addr) (n c : Nat) (G : List Gn) (d1 d2 d3 : Int) (w : World) (h : RdS w w.heap.size 6 A n c (rowsV gnC G)) (hn : n ≤ 1000000) (cf : Nat → Int) (hcf : ∀ t x, G[t]? = some x → ordD x.1.1 x.1.2.1 x.1.2.2 d1 d2 d3 = cf t) (hmono : ∀ a b, a ≤ b → b < n → cf b < 0 → cf a < 0) :
    Calls Try.prog 23 #[.slice A n c, .agg #[.int .i64 d1, .int .i64 d2, .int .i64 d3], .func (.func 24) #[] #[]] w fun e w' => ∃ i : Nat, i ≤ n ∧ (∀ t, t < i → cf t < 0) ∧ (∀ t, i ≤ t → t < n → 0 ≤ cf t) ∧ e = .returned (.tuple #[.int .i64 (i : Int), .bool (decide (i < n) && decide (cf i = 0))]) ∧ Below w.heap.size w w' := by
  have H := Lib.hid h
  have Hl := Lib.hid (h.rlen gnC_len (by decide))
  have HM := Lib.hid hmono
  have he : Ent 24 := ent_of Try.func24 (by kernel_rfl) rfl
  clear h hmono
  go_enter Try.func23, Try.ntmps23
  go_wp2
  have hx0 := Whole.new_ w 32 [.int .i64 d1, .int .i64 d2, .int .i64 d3]
  have hbl := below1 w (.cells #[.int .i64 d1, .int .i64 d2, .int .i64 d3] 32)
  obtain ⟨W0, gW0⟩ : ∃ z, w.alloc (.cells #[.int .i64 d1, .int .i64 d2, .int .i64 d3] 32) = z := ⟨_, rfl⟩
  replace hx0 : Whole W0 w.heap.size 32 [.int .i64 d1, .int .i64 d2, .int .i64 d3] := gW0 ▸ hx0
  rw [gW0] at hbl ⊢
  obtain ⟨b0, gb0⟩ : ∃ z, w.heap.size = z := ⟨_, rfl⟩
  rw [gb0] at hx0 ⊢
  have HX0 := Lib.hid hx0
  have HB0 := Lib.hid hbl
  clear gW0 gb0 hx0 hbl
  go_loopw [9, 10] (fun s9 s10 wr => ∃ lo hi : Nat, s9 = .int .i64 lo ∧ s10 = .int .i64 hi ∧ lo ≤ hi ∧ hi ≤ n ∧ RowKit.Hid (Whole wr b0 32 [.int .i64 d1, .int .i64 d2, .int .i64 d3]) ∧ RowKit.Hid (Below w.heap.size w wr) ∧ RowKit.Hid ((∀ t, t < lo → cf t < 0) ∧ (∀ t, hi ≤ t → t < n → 0 ≤ cf t))) (fun s9 s10 _ => (intOf s10).toNat - (intOf s9).toNat)
  case atStart => exact ⟨0, n, rfl, rfl, Nat.zero_le _, Nat.le_refl _, HX0, HB0, Lib.hid ⟨fun t ht => absurd ht (Nat.not_lt_zero _), fun t h1 h2 => by omega⟩⟩
  case round =>
    clear HX0 HB0
    obtain ⟨lo, hi, rfl, rfl, hlh, hin, HX, HB, HI⟩ := hrel
    obtain ⟨wo, gwo⟩ : ∃ z, wr = z := ⟨_, rfl⟩
    rw [gwo] at HX HB ⊢
    clear gwo
    by_cases hlt : lo < hi
    · obtain ⟨m, gm⟩ : ∃ m, (lo + hi) / 2 = m := ⟨_, rfl⟩
      have hm1 : lo ≤ m := by omega
      have hm2 : m < hi := by omega
      have hmn : m < n := by omega
      have e1 : ((lo : Int) + (hi : Int)) / 2 = (m : Int) := by omega
      obtain ⟨x, hx⟩ : ∃ x, G[m]? = some x := ⟨_, List.getElem?_eq_getElem (by have := Hl.out; omega)⟩
      obtain ⟨b, off, rfl, hbB, hpl⟩ := H.out.place gnC_len (by decide) (by omega)
      have hbw := HB.out
      have q0 := hpl m _ hx 0 _ rfl
      have q1 := hpl m _ hx 1 _ rfl
      have q2 := hpl m _ hx 2 _ rfl
      have q3 := hpl m _ hx 3 _ rfl
      have q4 := hpl m _ hx 4 _ rfl
      have q5 := hpl m _ hx 5 _ rfl
      simp only [Addr.add_lit, Nat.add_zero] at q0 q1 q2 q3 q4 q5
      have l0 := (hbw.cell (p := ⟨b, off + m * 6, none⟩) hbB).trans q0
      have l1 := (hbw.cell (p := ⟨b, off + m * 6 + 1, none⟩) hbB).trans q1
      have l2 := (hbw.cell (p := ⟨b, off + m * 6 + 2, none⟩) hbB).trans q2
      have l3 := (hbw.cell (p := ⟨b, off + m * 6 + 3, none⟩) hbB).trans q3
      have l4 := (hbw.cell (p := ⟨b, off + m * 6 + 4, none⟩) hbB).trans q4
      have l5 := (hbw.cell (p := ⟨b, off + m * 6 + 5, none⟩) hbB).trans q5
      have hcx := hcf m x hx
      obtain ⟨ov, gov⟩ : ∃ z, ordD x.1.1 x.1.2.1 x.1.2.2 d1 d2 d3 = z := ⟨_, rfl⟩
      rw [gov] at hcx
      have HC0 := addcmp_any x d1 d2 d3
      rw [gov] at HC0
      have HC : RowKit.Hid (∀ w', Calls Try.prog 24 #[.agg #[.int .i64 x.1.1, .int .i64 x.1.2.1, .int .i64 x.1.2.2, .int .i64 x.2.1, .int .i64 x.2.2.1, .int .i64 x.2.2.2], .agg #[.int .i64 d1, .int .i64 d2, .int .i64 d3]] w' fun e w'' => e = .returned (.int .i64 ov) ∧ Below w'.heap.size w' w'') := Lib.hid HC0
      have Hcx : RowKit.Hid (ov = cf m) := Lib.hid hcx
      clear hx hpl hbB hbw q0 q1 q2 q3 q4 q5 hcx gov HC0
      go_upto_region 5 with fail
      have ld0 : ∀ w', Kept Nil_ wo.drew w' → w'.cell? ⟨b, off + m * 6, none⟩ = some (.int .i64 x.1.1) := fun w' h => h.nil_cell (l0)
      have ld1 : ∀ w', Kept Nil_ wo.drew w' → w'.cell? ⟨b, off + m * 6 + 1, none⟩ = some (.int .i64 x.1.2.1) := fun w' h => h.nil_cell (l1)
      have ld2 : ∀ w', Kept Nil_ wo.drew w' → w'.cell? ⟨b, off + m * 6 + 2, none⟩ = some (.int .i64 x.1.2.2) := fun w' h => h.nil_cell (l2)
      have ld3 : ∀ w', Kept Nil_ wo.drew w' → w'.cell? ⟨b, off + m * 6 + 3, none⟩ = some (.int .i64 x.2.1) := fun w' h => h.nil_cell (l3)
      have ld4 : ∀ w', Kept Nil_ wo.drew w' → w'.cell? ⟨b, off + m * 6 + 4, none⟩ = some (.int .i64 x.2.2.1) := fun w' h => h.nil_cell (l4)
      have ld5 : ∀ w', Kept Nil_ wo.drew w' → w'.cell? ⟨b, off + m * 6 + 5, none⟩ = some (.int .i64 x.2.2.2) := fun w' h => h.nil_cell (l5)
      have lx0 : ∀ w', Kept Nil_ wo.drew w' → w'.cell? ⟨b0, 0, none⟩ = some (.int .i64 d1) := fun w' h => h.nil_cell (HX.out.dr.cell (i := 0) rfl)
      have lx1 : ∀ w', Kept Nil_ wo.drew w' → w'.cell? ⟨b0, 1, none⟩ = some (.int .i64 d2) := fun w' h => h.nil_cell (HX.out.dr.cell (i := 1) rfl)
      have lx2 : ∀ w', Kept Nil_ wo.drew w' → w'.cell? ⟨b0, 2, none⟩ = some (.int .i64 d3) := fun w' h => h.nil_cell (HX.out.dr.cell (i := 2) rfl)
      clear l0 l1 l2 l3 l4 l5
      by_cases hneg : ov < 0
      · have hq : decide (ov < 0) = true := decide_eq_true hneg
        have HI2 : RowKit.Hid ((∀ t, t < m + 1 → cf t < 0) ∧ (∀ t, hi ≤ t → t < n → 0 ≤ cf t)) := Lib.hid ⟨fun t ht => HM.out t m (by omega) (by omega) (by rw [← Hcx.out]; exact hneg), HI.out.2⟩
        clear hneg HI Hcx
        refine wp_region_reg (Nil_) (by kernel_rfl) ?_
        apply wpR_next 0 (some 24)
        · simp only [List.getElem?_toArray, List.getElem?_cons_succ, List.getElem?_cons_zero]; exact rfl
        · rfl
        · kernel_rfl
        · kernel_rfl
        · kernel_rfl
        · exact fun _ _ _ _ h => h
        apply Exists.intro
        apply And.intro
        · apply yr_run; rfl; intro w' hw'; go_simp; (try with_reducible rfl)
        simp only [Act.put, List.setIfInBounds_toArray, List.set_cons_zero, List.set_cons_succ]
        apply wpR_next 1 (some 25)
        · simp only [List.getElem?_toArray, List.getElem?_cons_succ, List.getElem?_cons_zero]; exact rfl
        · rfl
        · kernel_rfl
        · kernel_rfl
        · kernel_rfl
        · exact fun _ _ _ _ h => h
        apply Exists.intro
        apply And.intro
        · apply yr_run; rfl; intro w' hw'; go_simp; (try with_reducible rfl)
        simp only [Act.put, List.setIfInBounds_toArray, List.set_cons_zero, List.set_cons_succ]
        apply wpR_next 2 (some 26)
        · simp only [List.getElem?_toArray, List.getElem?_cons_succ, List.getElem?_cons_zero]; exact rfl
        · rfl
        · kernel_rfl
        · kernel_rfl
        · kernel_rfl
        · exact fun _ _ _ _ h => h
        apply Exists.intro
        apply And.intro
        · apply yr_run; rfl; intro w' hw'; go_simp; (try with_reducible rfl)
        simp only [Act.put, List.setIfInBounds_toArray, List.set_cons_zero, List.set_cons_succ]
        apply wpR_next 3 (some 27)
        · simp only [List.getElem?_toArray, List.getElem?_cons_succ, List.getElem?_cons_zero]; exact rfl
        · rfl
        · kernel_rfl
        · kernel_rfl
        · kernel_rfl
        · exact fun _ _ _ _ h => h
        apply Exists.intro
        apply And.intro
        · apply yr_run; rfl; intro w' hw'; go_simp; (try with_reducible rfl)
        simp only [Act.put, List.setIfInBounds_toArray, List.set_cons_zero, List.set_cons_succ]
        apply wpR_next 4 (some 28)
        · simp only [List.getElem?_toArray, List.getElem?_cons_succ, List.getElem?_cons_zero]; exact rfl
        · rfl
        · kernel_rfl
        · kernel_rfl
        · kernel_rfl
        · exact fun _ _ _ _ h => h
        apply Exists.intro
        apply And.intro
        · apply yr_run; rfl; intro w' hw'; go_simp; (try with_reducible rfl)
        simp only [Act.put, List.setIfInBounds_toArray, List.set_cons_zero, List.set_cons_succ]
        apply wpR_next 5 (some 29)
        · simp only [List.getElem?_toArray, List.getElem?_cons_succ, List.getElem?_cons_zero]; exact rfl
        · rfl
        · kernel_rfl
        · kernel_rfl
        · kernel_rfl
        · exact fun _ _ _ _ h => h
        apply Exists.intro
        apply And.intro
        · apply yr_run; rfl; intro w' hw'; go_simp; (try with_reducible rfl)
        simp only [Act.put, List.setIfInBounds_toArray, List.set_cons_zero, List.set_cons_succ]
        apply wpR_next 6 (some 30)
        · simp only [List.getElem?_toArray, List.getElem?_cons_succ, List.getElem?_cons_zero]; exact rfl
        · rfl
        · kernel_rfl
        · kernel_rfl
        · kernel_rfl
        · exact fun _ _ _ _ h => h
        apply Exists.intro
        apply And.intro
        · apply yr_call; rfl; rotate_left; intro w' hw'; exact HC.out w'; intro w'; go_simp
        simp only [Act.put, List.setIfInBounds_toArray, List.set_cons_zero, List.set_cons_succ]
        apply wpR_next 7 (some 31)
        · simp only [List.getElem?_toArray, List.getElem?_cons_succ, List.getElem?_cons_zero]; exact rfl
        · rfl
        · kernel_rfl
        · kernel_rfl
        · kernel_rfl
        · exact fun _ _ _ _ h => h
        apply Exists.intro
        apply And.intro
        · apply yr_run; rfl; intro w' hw'; go_simp; (try with_reducible rfl)
        simp only [Act.put, List.setIfInBounds_toArray, List.set_cons_zero, List.set_cons_succ]
        refine wpR_done (by kernel_rfl) ?_ _
        intro W3 hw3
        have HB3 := Lib.hid (bel_bl (bel_dr HB.out) hw3)
        have HX3 := Lib.hid (HX.out.dr.bl hw3)
        clear hw3 HB HX ld0 ld1 ld2 ld3 ld4 ld5 lx0 lx1 lx2 HC
        go_wp2
        go_roundw
        case rel => exact ⟨m + 1, hi, by go_num, rfl, by omega, hin, HX3, HB3, HI2⟩
        case measure => simp [intOf]; omega
      · have hq : decide (ov < 0) = false := decide_eq_false hneg
        have HI2 : RowKit.Hid ((∀ t, t < lo → cf t < 0) ∧ (∀ t, m ≤ t → t < n → 0 ≤ cf t)) := Lib.hid ⟨HI.out.1, fun t ht htn => Int.not_lt.1 fun h => by have := HM.out m t ht htn h; rw [← Hcx.out] at this; omega⟩
        clear hneg HI Hcx
        refine wp_region_reg (Nil_) (by kernel_rfl) ?_
        apply wpR_next 0 (some 24)
        · simp only [List.getElem?_toArray, List.getElem?_cons_succ, List.getElem?_cons_zero]; exact rfl
        · rfl
        · kernel_rfl
        · kernel_rfl
        · kernel_rfl
        · exact fun _ _ _ _ h => h
        apply Exists.intro
        apply And.intro
        · apply yr_run; rfl; intro w' hw'; go_simp; (try with_reducible rfl)
        simp only [Act.put, List.setIfInBounds_toArray, List.set_cons_zero, List.set_cons_succ]
        apply wpR_next 1 (some 25)
        · simp only [List.getElem?_toArray, List.getElem?_cons_succ, List.getElem?_cons_zero]; exact rfl
        · rfl
        · kernel_rfl
        · kernel_rfl
        · kernel_rfl
        · exact fun _ _ _ _ h => h
        apply Exists.intro
        apply And.intro
        · apply yr_run; rfl; intro w' hw'; go_simp; (try with_reducible rfl)
        simp only [Act.put, List.setIfInBounds_toArray, List.set_cons_zero, List.set_cons_succ]
        apply wpR_next 2 (some 26)
        · simp only [List.getElem?_toArray, List.getElem?_cons_succ, List.getElem?_cons_zero]; exact rfl
        · rfl
        · kernel_rfl
        · kernel_rfl
        · kernel_rfl
        · exact fun _ _ _ _ h => h
        apply Exists.intro
        apply And.intro
        · apply yr_run; rfl; intro w' hw'; go_simp; (try with_reducible rfl)
        simp only [Act.put, List.setIfInBounds_toArray, List.set_cons_zero, List.set_cons_succ]
        apply wpR_next 3 (some 27)
        · simp only [List.getElem?_toArray, List.getElem?_cons_succ, List.getElem?_cons_zero]; exact rfl
        · rfl
        · kernel_rfl
        · kernel_rfl
        · kernel_rfl
        · exact fun _ _ _ _ h => h
        apply Exists.intro
        apply And.intro
        · apply yr_run; rfl; intro w' hw'; go_simp; (try with_reducible rfl)
        simp only [Act.put, List.setIfInBounds_toArray, List.set_cons_zero, List.set_cons_succ]
        apply wpR_next 4 (some 28)
        · simp only [List.getElem?_toArray, List.getElem?_cons_succ, List.getElem?_cons_zero]; exact rfl
        · rfl
        · kernel_rfl
        · kernel_rfl
        · kernel_rfl
        · exact fun _ _ _ _ h => h
        apply Exists.intro
        apply And.intro
        · apply yr_run; rfl; intro w' hw'; go_simp; (try with_reducible rfl)
        simp only [Act.put, List.setIfInBounds_toArray, List.set_cons_zero, List.set_cons_succ]
        apply wpR_next 5 (some 29)
        · simp only [List.getElem?_toArray, List.getElem?_cons_succ, List.getElem?_cons_zero]; exact rfl
        · rfl
        · kernel_rfl
        · kernel_rfl
        · kernel_rfl
        · exact fun _ _ _ _ h => h
        apply Exists.intro
        apply And.intro
        · apply yr_run; rfl; intro w' hw'; go_simp; (try with_reducible rfl)
        simp only [Act.put, List.setIfInBounds_toArray, List.set_cons_zero, List.set_cons_succ]
        apply wpR_next 6 (some 30)
        · simp only [List.getElem?_toArray, List.getElem?_cons_succ, List.getElem?_cons_zero]; exact rfl
        · rfl
        · kernel_rfl
        · kernel_rfl
        · kernel_rfl
        · exact fun _ _ _ _ h => h
        apply Exists.intro
        apply And.intro
        · apply yr_call; rfl; rotate_left; intro w' hw'; exact HC.out w'; intro w'; go_simp
        simp only [Act.put, List.setIfInBounds_toArray, List.set_cons_zero, List.set_cons_succ]
        apply wpR_next 7 (some 31)
        · simp only [List.getElem?_toArray, List.getElem?_cons_succ, List.getElem?_cons_zero]; exact rfl
        · rfl
        · kernel_rfl
        · kernel_rfl
        · kernel_rfl
        · exact fun _ _ _ _ h => h
        apply Exists.intro
        apply And.intro
        · apply yr_run; rfl; intro w' hw'; go_simp; (try with_reducible rfl)
        simp only [Act.put, List.setIfInBounds_toArray, List.set_cons_zero, List.set_cons_succ]
        refine wpR_done (by kernel_rfl) ?_ _
        intro W3 hw3
        have HB3 := Lib.hid (bel_bl (bel_dr HB.out) hw3)
        have HX3 := Lib.hid (HX.out.dr.bl hw3)
        clear hw3 HB HX ld0 ld1 ld2 ld3 ld4 ld5 lx0 lx1 lx2 HC
        go_wp2
        go_roundw
        case rel => exact ⟨lo, m, rfl, by first | rfl | go_num, by omega, by omega, HX3, HB3, HI2⟩
        case measure => simp [intOf]; omega
    · obtain rfl : hi = lo := by omega
      by_cases hn1 : hi < n
      · have e2 : (hi : Int) < (n : Int) := by omega
        have e3 : ¬ (hi : Int) < (hi : Int) := by omega
        obtain ⟨x, hx⟩ : ∃ x, G[hi]? = some x := ⟨_, List.getElem?_eq_getElem (by have := Hl.out; omega)⟩
        obtain ⟨b, off, rfl, hbB, hpl⟩ := H.out.place gnC_len (by decide) (by omega)
        have hbw := HB.out
        have q0 := hpl hi _ hx 0 _ rfl
        have q1 := hpl hi _ hx 1 _ rfl
        have q2 := hpl hi _ hx 2 _ rfl
        have q3 := hpl hi _ hx 3 _ rfl
        have q4 := hpl hi _ hx 4 _ rfl
        have q5 := hpl hi _ hx 5 _ rfl
        simp only [Addr.add_lit, Nat.add_zero] at q0 q1 q2 q3 q4 q5
        have l0 := (hbw.cell (p := ⟨b, off + hi * 6, none⟩) hbB).trans q0
        have l1 := (hbw.cell (p := ⟨b, off + hi * 6 + 1, none⟩) hbB).trans q1
        have l2 := (hbw.cell (p := ⟨b, off + hi * 6 + 2, none⟩) hbB).trans q2
        have l3 := (hbw.cell (p := ⟨b, off + hi * 6 + 3, none⟩) hbB).trans q3
        have l4 := (hbw.cell (p := ⟨b, off + hi * 6 + 4, none⟩) hbB).trans q4
        have l5 := (hbw.cell (p := ⟨b, off + hi * 6 + 5, none⟩) hbB).trans q5
        have hcx := hcf hi x hx
        obtain ⟨ov, gov⟩ : ∃ z, ordD x.1.1 x.1.2.1 x.1.2.2 d1 d2 d3 = z := ⟨_, rfl⟩
        rw [gov] at hcx
        have HC0 := addcmp_any x d1 d2 d3
        rw [gov] at HC0
        have HC : RowKit.Hid (∀ w', Calls Try.prog 24 #[.agg #[.int .i64 x.1.1, .int .i64 x.1.2.1, .int .i64 x.1.2.2, .int .i64 x.2.1, .int .i64 x.2.2.1, .int .i64 x.2.2.2], .agg #[.int .i64 d1, .int .i64 d2, .int .i64 d3]] w' fun e w'' => e = .returned (.int .i64 ov) ∧ Below w'.heap.size w' w'') := Lib.hid HC0
        have Hcx : RowKit.Hid (ov = cf hi) := Lib.hid hcx
        clear hx hpl hbB hbw q0 q1 q2 q3 q4 q5 hcx gov HC0
        obtain ⟨bq, gbq⟩ : ∃ z, (ov == 0) = z := ⟨_, rfl⟩
        have hfin : (decide (hi < n) && decide (cf hi = 0)) = bq := by
          rw [decide_eq_true hn1, ← Hcx.out, ← gbq, Bool.true_and, Bool.eq_iff_iff, decide_eq_true_iff, beq_iff_eq]
        have Hfin := Lib.hid hfin
        clear hfin
        go_upto_region 8 with fail
        have ld0 : ∀ w', Kept Nil_ wo.drew w' → w'.cell? ⟨b, off + hi * 6, none⟩ = some (.int .i64 x.1.1) := fun w' h => h.nil_cell (l0)
        have ld1 : ∀ w', Kept Nil_ wo.drew w' → w'.cell? ⟨b, off + hi * 6 + 1, none⟩ = some (.int .i64 x.1.2.1) := fun w' h => h.nil_cell (l1)
        have ld2 : ∀ w', Kept Nil_ wo.drew w' → w'.cell? ⟨b, off + hi * 6 + 2, none⟩ = some (.int .i64 x.1.2.2) := fun w' h => h.nil_cell (l2)
        have ld3 : ∀ w', Kept Nil_ wo.drew w' → w'.cell? ⟨b, off + hi * 6 + 3, none⟩ = some (.int .i64 x.2.1) := fun w' h => h.nil_cell (l3)
        have ld4 : ∀ w', Kept Nil_ wo.drew w' → w'.cell? ⟨b, off + hi * 6 + 4, none⟩ = some (.int .i64 x.2.2.1) := fun w' h => h.nil_cell (l4)
        have ld5 : ∀ w', Kept Nil_ wo.drew w' → w'.cell? ⟨b, off + hi * 6 + 5, none⟩ = some (.int .i64 x.2.2.2) := fun w' h => h.nil_cell (l5)
        have lx0 : ∀ w', Kept Nil_ wo.drew w' → w'.cell? ⟨b0, 0, none⟩ = some (.int .i64 d1) := fun w' h => h.nil_cell (HX.out.dr.cell (i := 0) rfl)
        have lx1 : ∀ w', Kept Nil_ wo.drew w' → w'.cell? ⟨b0, 1, none⟩ = some (.int .i64 d2) := fun w' h => h.nil_cell (HX.out.dr.cell (i := 1) rfl)
        have lx2 : ∀ w', Kept Nil_ wo.drew w' → w'.cell? ⟨b0, 2, none⟩ = some (.int .i64 d3) := fun w' h => h.nil_cell (HX.out.dr.cell (i := 2) rfl)
        clear l0 l1 l2 l3 l4 l5
        refine wp_region_reg (Nil_) (by kernel_rfl) ?_
        apply wpR_next 0 (some 35)
        · simp only [List.getElem?_toArray, List.getElem?_cons_succ, List.getElem?_cons_zero]; exact rfl
        · rfl
        · kernel_rfl
        · kernel_rfl
        · kernel_rfl
        · exact fun _ _ _ _ h => h
        apply Exists.intro
        apply And.intro
        · apply yr_run; rfl; intro w' hw'; go_simp; (try with_reducible rfl)
        simp only [Act.put, List.setIfInBounds_toArray, List.set_cons_zero, List.set_cons_succ]
        apply wpR_next 1 (some 36)
        · simp only [List.getElem?_toArray, List.getElem?_cons_succ, List.getElem?_cons_zero]; exact rfl
        · rfl
        · kernel_rfl
        · kernel_rfl
        · kernel_rfl
        · exact fun _ _ _ _ h => h
        apply Exists.intro
        apply And.intro
        · apply yr_run; rfl; intro w' hw'; go_simp; (try with_reducible rfl)
        simp only [Act.put, List.setIfInBounds_toArray, List.set_cons_zero, List.set_cons_succ]
        apply wpR_next 2 (some 37)
        · simp only [List.getElem?_toArray, List.getElem?_cons_succ, List.getElem?_cons_zero]; exact rfl
        · rfl
        · kernel_rfl
        · kernel_rfl
        · kernel_rfl
        · exact fun _ _ _ _ h => h
        apply Exists.intro
        apply And.intro
        · apply yr_run; rfl; intro w' hw'; go_simp; (try with_reducible rfl)
        simp only [Act.put, List.setIfInBounds_toArray, List.set_cons_zero, List.set_cons_succ]
        apply wpR_next 3 (some 38)
        · simp only [List.getElem?_toArray, List.getElem?_cons_succ, List.getElem?_cons_zero]; exact rfl
        · rfl
        · kernel_rfl
        · kernel_rfl
        · kernel_rfl
        · exact fun _ _ _ _ h => h
        apply Exists.intro
        apply And.intro
        · apply yr_run; rfl; intro w' hw'; go_simp; (try with_reducible rfl)
        simp only [Act.put, List.setIfInBounds_toArray, List.set_cons_zero, List.set_cons_succ]
        apply wpR_next 4 (some 39)
        · simp only [List.getElem?_toArray, List.getElem?_cons_succ, List.getElem?_cons_zero]; exact rfl
        · rfl
        · kernel_rfl
        · kernel_rfl
        · kernel_rfl
        · exact fun _ _ _ _ h => h
        apply Exists.intro
        apply And.intro
        · apply yr_run; rfl; intro w' hw'; go_simp; (try with_reducible rfl)
        simp only [Act.put, List.setIfInBounds_toArray, List.set_cons_zero, List.set_cons_succ]
        apply wpR_next 5 (some 40)
        · simp only [List.getElem?_toArray, List.getElem?_cons_succ, List.getElem?_cons_zero]; exact rfl
        · rfl
        · kernel_rfl
        · kernel_rfl
        · kernel_rfl
        · exact fun _ _ _ _ h => h
        apply Exists.intro
        apply And.intro
        · apply yr_run; rfl; intro w' hw'; go_simp; (try with_reducible rfl)
        simp only [Act.put, List.setIfInBounds_toArray, List.set_cons_zero, List.set_cons_succ]
        apply wpR_next 6 (some 41)
        · simp only [List.getElem?_toArray, List.getElem?_cons_succ, List.getElem?_cons_zero]; exact rfl
        · rfl
        · kernel_rfl
        · kernel_rfl
        · kernel_rfl
        · exact fun _ _ _ _ h => h
        apply Exists.intro
        apply And.intro
        · apply yr_run; rfl; intro w' hw'; go_simp; (try with_reducible rfl)
        simp only [Act.put, List.setIfInBounds_toArray, List.set_cons_zero, List.set_cons_succ]
        apply wpR_next 7 (some 42)
        · simp only [List.getElem?_toArray, List.getElem?_cons_succ, List.getElem?_cons_zero]; exact rfl
        · rfl
        · kernel_rfl
        · kernel_rfl
        · kernel_rfl
        · exact fun _ _ _ _ h => h
        apply Exists.intro
        apply And.intro
        · apply yr_run; rfl; intro w' hw'; go_simp; (try with_reducible rfl)
        simp only [Act.put, List.setIfInBounds_toArray, List.set_cons_zero, List.set_cons_succ]
        apply wpR_next 8 (some 43)
        · simp only [List.getElem?_toArray, List.getElem?_cons_succ, List.getElem?_cons_zero]; exact rfl
        · rfl
        · kernel_rfl
        · kernel_rfl
        · kernel_rfl
        · exact fun _ _ _ _ h => h
        apply Exists.intro
        apply And.intro
        · apply yr_run; rfl; intro w' hw'; go_simp; (try with_reducible rfl)
        simp only [Act.put, List.setIfInBounds_toArray, List.set_cons_zero, List.set_cons_succ]
        apply wpR_next 9 (some 44)
        · simp only [List.getElem?_toArray, List.getElem?_cons_succ, List.getElem?_cons_zero]; exact rfl
        · rfl
        · kernel_rfl
        · kernel_rfl
        · kernel_rfl
        · exact fun _ _ _ _ h => h
        apply Exists.intro
        apply And.intro
        · apply yr_run; rfl; intro w' hw'; go_simp; (try with_reducible rfl)
        simp only [Act.put, List.setIfInBounds_toArray, List.set_cons_zero, List.set_cons_succ]
        apply wpR_next 10 (some 45)
        · simp only [List.getElem?_toArray, List.getElem?_cons_succ, List.getElem?_cons_zero]; exact rfl
        · rfl
        · kernel_rfl
        · kernel_rfl
        · kernel_rfl
        · exact fun _ _ _ _ h => h
        apply Exists.intro
        apply And.intro
        · apply yr_run; rfl; intro w' hw'; go_simp; (try with_reducible rfl)
        simp only [Act.put, List.setIfInBounds_toArray, List.set_cons_zero, List.set_cons_succ]
        apply wpR_next 11 (some 46)
        · simp only [List.getElem?_toArray, List.getElem?_cons_succ, List.getElem?_cons_zero]; exact rfl
        · rfl
        · kernel_rfl
        · kernel_rfl
        · kernel_rfl
        · exact fun _ _ _ _ h => h
        apply Exists.intro
        apply And.intro
        · apply yr_call; rfl; rotate_left; intro w' hw'; exact HC.out w'; intro w'; go_simp
        simp only [Act.put, List.setIfInBounds_toArray, List.set_cons_zero, List.set_cons_succ]
        apply wpR_next 12 (some 47)
        · simp only [List.getElem?_toArray, List.getElem?_cons_succ, List.getElem?_cons_zero]; exact rfl
        · rfl
        · kernel_rfl
        · kernel_rfl
        · kernel_rfl
        · exact fun _ _ _ _ h => h
        apply Exists.intro
        apply And.intro
        · apply yr_run; rfl; intro w' hw'; go_simp; (try with_reducible rfl)
        simp only [Act.put, List.setIfInBounds_toArray, List.set_cons_zero, List.set_cons_succ]
        apply wpR_next 13 (some 48)
        · simp only [List.getElem?_toArray, List.getElem?_cons_succ, List.getElem?_cons_zero]; exact rfl
        · rfl
        · kernel_rfl
        · kernel_rfl
        · kernel_rfl
        · exact fun _ _ _ _ h => h
        apply Exists.intro
        apply And.intro
        · apply yr_run; rfl; intro w' hw'; go_simp; (try with_reducible rfl)
        simp only [Act.put, List.setIfInBounds_toArray, List.set_cons_zero, List.set_cons_succ]
        apply wpR_next 14 (some 6)
        · simp only [List.getElem?_toArray, List.getElem?_cons_succ, List.getElem?_cons_zero]; exact rfl
        · rfl
        · kernel_rfl
        · kernel_rfl
        · kernel_rfl
        · exact fun _ _ _ _ h => h
        apply Exists.intro
        apply And.intro
        · apply yr_run; rfl; intro w' hw'; go_simp; (try with_reducible rfl)
        simp only [Act.put, List.setIfInBounds_toArray, List.set_cons_zero, List.set_cons_succ]
        apply wpR_next 15 (some 7)
        · simp only [List.getElem?_toArray, List.getElem?_cons_succ, List.getElem?_cons_zero]; exact rfl
        · rfl
        · kernel_rfl
        · kernel_rfl
        · kernel_rfl
        · exact fun _ _ _ _ h => h
        apply Exists.intro
        apply And.intro
        · apply yr_run; rfl; intro w' hw'; go_simp; (try with_reducible rfl)
        simp only [Act.put, List.setIfInBounds_toArray, List.set_cons_zero, List.set_cons_succ]
        refine wpR_done (by kernel_rfl) ?_ _
        intro W3 hw3
        have HB3 := Lib.hid (bel_bl (bel_dr HB.out) hw3)
        clear hw3 HB HX ld0 ld1 ld2 ld3 ld4 ld5 lx0 lx1 lx2 HC
        go_wp2
        refine bodyPost_ret (v := .tuple #[.int .i64 (hi : Int), .bool bq]) (by simp [results, Try.results23, go_sem]) rfl ?_
        exact ⟨hi, hin, HI.out.1, HI.out.2, by rw [Hfin.out], HB3.out⟩
      · have e2 : ¬ (hi : Int) < (n : Int) := by omega
        have e3 : ¬ (hi : Int) < (hi : Int) := by omega
        have hfin : (decide (hi < n) && decide (cf hi = 0)) = false := by rw [decide_eq_false hn1]; rfl
        have Hfin := Lib.hid hfin
        clear hfin
        go_upto_region 8 with fail
        refine wp_region_reg (Nil_) (by kernel_rfl) ?_
        apply wpR_next 0 (some 35)
        · simp only [List.getElem?_toArray, List.getElem?_cons_succ, List.getElem?_cons_zero]; exact rfl
        · rfl
        · kernel_rfl
        · kernel_rfl
        · kernel_rfl
        · exact fun _ _ _ _ h => h
        apply Exists.intro
        apply And.intro
        · apply yr_run; rfl; intro w' hw'; go_simp; (try with_reducible rfl)
        simp only [Act.put, List.setIfInBounds_toArray, List.set_cons_zero, List.set_cons_succ]
        apply wpR_next 1 (some 36)
        · simp only [List.getElem?_toArray, List.getElem?_cons_succ, List.getElem?_cons_zero]; exact rfl
        · rfl
        · kernel_rfl
        · kernel_rfl
        · kernel_rfl
        · exact fun _ _ _ _ h => h
        apply Exists.intro
        apply And.intro
        · apply yr_run; rfl; intro w' hw'; go_simp; (try with_reducible rfl)
        simp only [Act.put, List.setIfInBounds_toArray, List.set_cons_zero, List.set_cons_succ]
        apply wpR_next 2 (some 37)
        · simp only [List.getElem?_toArray, List.getElem?_cons_succ, List.getElem?_cons_zero]; exact rfl
        · rfl
        · kernel_rfl
        · kernel_rfl
        · kernel_rfl
        · exact fun _ _ _ _ h => h
        apply Exists.intro
        apply And.intro
        · apply yr_run; rfl; intro w' hw'; go_simp; (try with_reducible rfl)
        simp only [Act.put, List.setIfInBounds_toArray, List.set_cons_zero, List.set_cons_succ]
        apply wpR_next 3 (some 38)
        · simp only [List.getElem?_toArray, List.getElem?_cons_succ, List.getElem?_cons_zero]; exact rfl
        · rfl
        · kernel_rfl
        · kernel_rfl
        · kernel_rfl
        · exact fun _ _ _ _ h => h
        apply Exists.intro
        apply And.intro
        · apply yr_run; rfl; intro w' hw'; go_simp; (try with_reducible rfl)
        simp only [Act.put, List.setIfInBounds_toArray, List.set_cons_zero, List.set_cons_succ]
        apply wpR_next 4 (some 39)
        · simp only [List.getElem?_toArray, List.getElem?_cons_succ, List.getElem?_cons_zero]; exact rfl
        · rfl
        · kernel_rfl
        · kernel_rfl
        · kernel_rfl
        · exact fun _ _ _ _ h => h
        apply Exists.intro
        apply And.intro
        · apply yr_run; rfl; intro w' hw'; go_simp; (try with_reducible rfl)
        simp only [Act.put, List.setIfInBounds_toArray, List.set_cons_zero, List.set_cons_succ]
        apply wpR_next 5 (some 40)
        · simp only [List.getElem?_toArray, List.getElem?_cons_succ, List.getElem?_cons_zero]; exact rfl
        · rfl
        · kernel_rfl
        · kernel_rfl
        · kernel_rfl
        · exact fun _ _ _ _ h => h
        apply Exists.intro
        apply And.intro
        · exact yr_skip (by rfl)
        simp only [Act.put, List.setIfInBounds_toArray, List.set_cons_zero, List.set_cons_succ]
        apply wpR_next 6 (some 41)
        · simp only [List.getElem?_toArray, List.getElem?_cons_succ, List.getElem?_cons_zero]; exact rfl
        · rfl
        · kernel_rfl
        · kernel_rfl
        · kernel_rfl
        · exact fun _ _ _ _ h => h
        apply Exists.intro
        apply And.intro
        · exact yr_skip (by rfl)
        simp only [Act.put, List.setIfInBounds_toArray, List.set_cons_zero, List.set_cons_succ]
        apply wpR_next 7 (some 42)
        · simp only [List.getElem?_toArray, List.getElem?_cons_succ, List.getElem?_cons_zero]; exact rfl
        · rfl
        · kernel_rfl
        · kernel_rfl
        · kernel_rfl
        · exact fun _ _ _ _ h => h
        apply Exists.intro
        apply And.intro
        · exact yr_skip (by rfl)
        simp only [Act.put, List.setIfInBounds_toArray, List.set_cons_zero, List.set_cons_succ]
        apply wpR_next 8 (some 43)
        · simp only [List.getElem?_toArray, List.getElem?_cons_succ, List.getElem?_cons_zero]; exact rfl
        · rfl
        · kernel_rfl
        · kernel_rfl
        · kernel_rfl
        · exact fun _ _ _ _ h => h
        apply Exists.intro
        apply And.intro
        · exact yr_skip (by rfl)
        simp only [Act.put, List.setIfInBounds_toArray, List.set_cons_zero, List.set_cons_succ]
        apply wpR_next 9 (some 44)
        · simp only [List.getElem?_toArray, List.getElem?_cons_succ, List.getElem?_cons_zero]; exact rfl
        · rfl
        · kernel_rfl
        · kernel_rfl
        · kernel_rfl
        · exact fun _ _ _ _ h => h
        apply Exists.intro
        apply And.intro
        · exact yr_skip (by rfl)
        simp only [Act.put, List.setIfInBounds_toArray, List.set_cons_zero, List.set_cons_succ]
        apply wpR_next 10 (some 45)
        · simp only [List.getElem?_toArray, List.getElem?_cons_succ, List.getElem?_cons_zero]; exact rfl
        · rfl
        · kernel_rfl
        · kernel_rfl
        · kernel_rfl
        · exact fun _ _ _ _ h => h
        apply Exists.intro
        apply And.intro
        · exact yr_skip (by rfl)
        simp only [Act.put, List.setIfInBounds_toArray, List.set_cons_zero, List.set_cons_succ]
        apply wpR_next 11 (some 46)
        · simp only [List.getElem?_toArray, List.getElem?_cons_succ, List.getElem?_cons_zero]; exact rfl
        · rfl
        · kernel_rfl
        · kernel_rfl
        · kernel_rfl
        · exact fun _ _ _ _ h => h
        apply Exists.intro
        apply And.intro
        · exact yr_skip (by rfl)
        simp only [Act.put, List.setIfInBounds_toArray, List.set_cons_zero, List.set_cons_succ]
        apply wpR_next 12 (some 47)
        · simp only [List.getElem?_toArray, List.getElem?_cons_succ, List.getElem?_cons_zero]; exact rfl
        · rfl
        · kernel_rfl
        · kernel_rfl
        · kernel_rfl
        · exact fun _ _ _ _ h => h
        apply Exists.intro
        apply And.intro
        · exact yr_skip (by rfl)
        simp only [Act.put, List.setIfInBounds_toArray, List.set_cons_zero, List.set_cons_succ]
        apply wpR_next 13 (some 48)
        · simp only [List.getElem?_toArray, List.getElem?_cons_succ, List.getElem?_cons_zero]; exact rfl
        · rfl
        · kernel_rfl
        · kernel_rfl
        · kernel_rfl
        · exact fun _ _ _ _ h => h
        apply Exists.intro
        apply And.intro
        · apply yr_run; rfl; intro w' hw'; go_simp; (try with_reducible rfl)
        simp only [Act.put, List.setIfInBounds_toArray, List.set_cons_zero, List.set_cons_succ]
        apply wpR_next 14 (some 6)
        · simp only [List.getElem?_toArray, List.getElem?_cons_succ, List.getElem?_cons_zero]; exact rfl
        · rfl
        · kernel_rfl
        · kernel_rfl
        · kernel_rfl
        · exact fun _ _ _ _ h => h
        apply Exists.intro
        apply And.intro
        · apply yr_run; rfl; intro w' hw'; go_simp; (try with_reducible rfl)
        simp only [Act.put, List.setIfInBounds_toArray, List.set_cons_zero, List.set_cons_succ]
        apply wpR_next 15 (some 7)
        · simp only [List.getElem?_toArray, List.getElem?_cons_succ, List.getElem?_cons_zero]; exact rfl
        · rfl
        · kernel_rfl
        · kernel_rfl
        · kernel_rfl
        · exact fun _ _ _ _ h => h
        apply Exists.intro
        apply And.intro
        · apply yr_run; rfl; intro w' hw'; go_simp; (try with_reducible rfl)
        simp only [Act.put, List.setIfInBounds_toArray, List.set_cons_zero, List.set_cons_succ]
        refine wpR_done (by kernel_rfl) ?_ _
        intro W3 hw3
        have HB3 := Lib.hid (bel_bl (bel_dr HB.out) hw3)
        clear hw3 HB HX
        go_wp2
        refine bodyPost_ret (v := .tuple #[.int .i64 (hi : Int), .bool false]) (by simp [results, Try.results23, go_sem]) rfl ?_
        exact ⟨hi, hin, HI.out.1, HI.out.2, by rw [Hfin.out], HB3.out⟩
end Go.Proofs.Ytkhklhipiiehbaa

/- slices.Insert over darts that are gone: at the end. -/
namespace Go.Proofs.Ytkhklhipiiehbaa
open Go.RowKit
set_option linter.unusedSimpArgs false
set_option linter.unusedVariables false

/-- copy over elements of s cells: all is read before anything is written. -/
theorem run_copy_sz {P : Program} (w : World) (dT sT ty elem : TypeId) (s b o dLen dCap : Nat) (a : Addr) (sLen sCap m : Nat) (cs : List Value)
    (hu : P.underlying dT = some (.slice elem)) (hs : (P.info? elem).map (·.size) = some s) (hm : Nat.min sLen dLen = m) (hn : m * s = cs.length)
    (hsrc : ∀ j v, cs[j]? = some v → w.cell? (a.add j) = some v) (hc : ∀ j, j < cs.length → (w.cell? ⟨b, o + j, none⟩).isSome = true) (hf : ∀ j, j < cs.length → w.frozen? ⟨b, o + j, none⟩ = false) (h1 : ∀ v ∈ cs, v.oneCell' = true) :
    (Builtin.copy_ #[dT, sT] ty #[.slice (some ⟨b, o, none⟩) dLen dCap, .slice (some a) sLen sCap]).run P w = .ok (goInt m) (w.setCells b o cs) := by
  have hl := run_loadCells_list (P := P) w a cs hsrc
  have hst := run_storeCells_cells (P := P) b o cs 0 w (by simpa using hc) (by simpa using hf) h1
  cases hq : P.info? elem with
  | none => simp [hq] at hs
  | some i =>
    have hi : i.size = s := by simpa [hq] using hs
    simp [Builtin.copy_, run_underlying hu, Builtin.lenOf, Builtin.firstCells, sizeOf, typeInfo, hq, hi, hm, hn, hl, hst]
set_option maxRecDepth 100000 in
set_option maxHeartbeats 4000000 in
theorem insert_end {w W : World} {B : Nat} {A : Option Addr} {n c vb : Nat} {G : List Gn} (x : Gn) (hO : Ow w B 36 6 (.slice A n c) n (rowsV gnC G) W) (hx : RdS W W.heap.size 6 (some ⟨vb, 0, none⟩) 1 1 (rowsV gnC [x])) (hn : n ≤ 1000) :
    Calls Try.prog 26 #[.slice A n c, .int .i64 (n : Int), .slice (some ⟨vb, 0, none⟩) 1 1] W fun e w' => ∃ A' c', e = .returned (.slice A' (n + 1) c') ∧ Ow w B 36 6 (.slice A' (n + 1) c') (n + 1) (rowsV gnC (G ++ [x])) w' := by
  obtain ⟨iG, hiG, z0iG, z1iG, z2iG⟩ := info_partsD info_gone
  have HO := Lib.hid hO
  have HL := Lib.hid hx
  have hnc : n ≤ c := (own_rds hO.own).le
  have hcm := own_cap hO.own
  unfold maxLen at hcm
  have e1 : ((n : Int) == (n : Int)) = true := by simp
  clear hO hx
  by_cases hcn : c = n
  · go_enter Try.func26, Try.ntmps26
    go_wp2_with (first
      | (at_builtin
         refine wpList_push2 rfl (.tmp 23) (.tmp 24) _ rfl _ 36 iG _ 6 48 Try.underlying26 hiG z0iG z1iG z2iG rfl (by decide) _ _ _ rfl HO.out _ _ _ _ _ rfl HL.out (rowsV_one11 gnC gnC_one [x]) (by unfold maxLen; omega) (by omega) ?_
         intro v5 W5 how5 hb5 hgr5
         obtain ⟨A5, c5, rfl, -⟩ := how5.rds
         have HO5 := Lib.hid how5
         clear how5 hb5 hgr5))
    go_ret
    exact ⟨_, _, rfl, by rw [rowsV_app]; exact HO5.out⟩
  · go_enter Try.func26, Try.ntmps26
    go_wp2_with (first
      | (at_builtin
         refine wpList_push2 rfl (.tmp 23) (.tmp 24) _ rfl _ 36 iG _ 6 48 Try.underlying26 hiG z0iG z1iG z2iG rfl (by decide) _ _ _ rfl HO.out _ _ _ _ _ rfl HL.out (rowsV_one11 gnC gnC_one [x]) (by unfold maxLen; omega) (by omega) ?_
         intro v5 W5 how5 hb5 hgr5
         obtain ⟨A5, c5, rfl, -⟩ := how5.rds
         have HO5 := Lib.hid how5
         clear how5 hb5 hgr5))
    go_ret
    exact ⟨_, _, rfl, by rw [rowsV_app]; exact HO5.out⟩
end Go.Proofs.Ytkhklhipiiehbaa
