/- ring.turned and ring.Swap once more: what is told is new. -/
import Derived.Test.YtgbkloilodgjfaaRgE
namespace Go.Proofs.Ytgbkloilodgjfaa
open Go.RowKit
set_option linter.unusedSimpArgs false

def GivesF (w : World) (L : List D) (e : Ending) (w' : World) : Prop :=
  ∃ A c, e = .returned (.slice A L.length c) ∧ RdS w' w'.heap.size 3 A L.length c (dartsV L) ∧ Below w.heap.size w w' ∧ (∀ a, A = some a → w.heap.size ≤ a.block)

theorem sl_lhmF (A : Option Addr) (n c lo : Nat) (h1 : lo ≤ n) (h2 : n ≤ c) : ∃ X, (∀ W, (Instr.slice 42 (.slice A n c) (some (.int .i64 (lo : Int))) (some (.int .i64 (n : Int))) (some (.int .i64 (n : Int)))).run Try.prog W = .ok (.slice X (n - lo) (n - lo)) W) ∧
    (∀ W B L, RdS W B 3 A n c (dartsV L) → RdS W B 3 X (n - lo) (n - lo) (dartsV (L.drop lo))) ∧ ∀ B0 : Nat, (∀ a, A = some a → B0 ≤ a.block) → ∀ a, X = some a → B0 ≤ a.block := by
  refine ⟨if n = lo then A else A.map (·.add (lo * 3)), fun W => ?_, fun W B L h => ?_, fun B0 h a e => ?_⟩
  · rw [run_slice_lhm W 42 A n c elem_darts .i64 .i64 .i64 lo n n (by omega) (by omega) (by omega) (by omega), size_darts]
    simp [sliced, Result.andThen]
  · have := h.piece h1 (Nat.le_refl n) (Nat.le_refl n) h2
    rwa [List.take_of_length_le (by rw [h.dlen]; omega)] at this
  · split at e
    · exact h a e
    · cases A with
      | none => cases e
      | some a0 =>
        cases e
        show B0 ≤ (a0.add (lo * 3)).block
        rw [add_block]
        exact h a0 rfl

set_option maxRecDepth 100000 in
set_option maxHeartbeats 1000000 in
theorem turned_anyF (A : Option Addr) (n c : Nat) (Ps : List (List D)) (w : World) (h : Parts w A n Ps) (hn : n ≤ 100) (hm : Ps.flatten.length ≤ 1000000) :
    Calls Try.prog 50 #[.slice A n c] w (GivesF w (turnD Ps.flatten)) := by
  obtain ⟨i0, hi, hz0, hz1, hz2⟩ := info_parts info_dart
  have H := Lib.hid h
  clear h
  go_enter Try.func50, Try.ntmps50
  go_wp2
  go_loopw [3, 11] (fun v i wr => ∃ k : Nat, k ≤ n ∧ i = .int .i64 k ∧ Ow w w.heap.size 46 3 v (Ps.take k).flatten.length (dartsV (Ps.take k).flatten) wr) (fun _ i _ => n - (intOf i).toNat)
  case atStart => exact ⟨0, Nat.zero_le _, rfl, by simpa [dartsV] using Ow.nil_ (Below.refl _ w) (Nat.le_refl _) (Nat.le_refl _)⟩
  case round =>
    obtain ⟨k, hk, rfl, how⟩ := hrel
    have HO := Lib.hid how
    by_cases hlt : k < n
    · obtain ⟨b, off, A', c', rfl, hb, hc, hr⟩ := (H.out.up (how.below)).part k hlt
      have HR := Lib.hid hr
      have HF := Lib.hid (flat_take Ps k (by have := H.out.len; omega))
      have hle : ((Ps.take k).flatten.length + (Ps.getD k []).length) ≤ 1000000 := by
        have := flat_le Ps (k + 1)
        rw [HF.out, List.length_append] at this
        omega
      clear how hr
      obtain ⟨P, gP⟩ : ∃ v, Ps.getD k [] = v := ⟨_, rfl⟩
      rw [gP] at hc HR HF hle
      clear gP
      go_wp2_with (first
        | (at_builtin
           refine wpList_push rfl (.tmp 15) (.tmp 16) _ rfl _ 46 i0 _ 3 24 Try.underlying42 hi hz0 hz1 hz2 rfl (by decide) _ _ _ rfl (by exact HO.out) _ _ _ _ _ rfl (by exact HR.out) (dartsV_one P) (by unfold maxLen; omega) (by omega) ?_
           intro v1 w1 how1 hb1
           have HO1 := Lib.hid how1
           clear how1))
      go_roundw
      case rel =>
        refine ⟨k + 1, by omega, by go_num, ?_⟩
        rw [HF.out, List.length_append, dartsV_app]
        exact HO1.out
      case measure => simp [intOf]; omega
    · have hkn : k = n := by omega
      have htk : Ps.take k = Ps := List.take_of_length_le (by have := H.out.len; omega)
      rw [htk] at HO
      clear how htk hkn
      obtain ⟨L, gL⟩ : ∃ v, Ps.flatten = v := ⟨_, rfl⟩
      rw [gL] at HO hm
      have GL := Lib.hid gL
      clear gL
      obtain ⟨A1, c1, hv, hr1⟩ := HO.out.rds
      subst hv
      have hfr : ∀ a, A1 = some a → w.heap.size ≤ a.block := (by rintro a rfl; rcases HO.out.own.2 with ⟨hv1, _⟩ | ⟨g, cap, cur, hv1, hbg, _⟩ <;> cases hv1; exact hbg)
      have HFR := Lib.hid hfr
      clear hfr
      have HR := Lib.hid hr1
      clear hr1
      have HB := Lib.hid HO.out.below
      clear HO H
      obtain ⟨W1, rfl⟩ : ∃ x : World, x = wr := ⟨_, rfl⟩
      go_wp2
      go_loopw [6, 21] (fun lv i wr => ∃ k : Nat, k ≤ L.length ∧ i = .int .i64 k ∧ lv = .int .i64 (leastI L k : Int) ∧ Below W1.heap.size W1 wr) (fun _ i _ => L.length - (intOf i).toNat)
      case atStart => exact ⟨0, Nat.zero_le _, rfl, rfl, Below.refl _ _⟩
      case round =>
        obtain ⟨k2, hk2, rfl, rfl, hbw⟩ := hrel
        have HBw := Lib.hid hbw
        by_cases hlt2 : k2 < L.length
        · obtain ⟨b, off, rfl, hb, hc⟩ := (HR.out.up hbw hbw.size).darts (by omega)
          obtain ⟨d1, d2, d3⟩ := hc k2 hlt2
          have hlm := leastI_le L k2
          have hlm2 : leastI L k2 < L.length := by omega
          obtain ⟨e1, e2, e3⟩ := hc (leastI L k2) hlm2
          have hs : leastI L (k2 + 1) = if ordT (L.getD k2 (0, 0, 0)) (L.getD (leastI L k2) (0, 0, 0)) < 0 then k2 else leastI L k2 := rfl
          obtain ⟨m, gm⟩ : ∃ v, leastI L k2 = v := ⟨_, rfl⟩
          rw [gm] at e1 e2 e3 hlm hlm2 hs ⊢
          obtain ⟨x, gx⟩ : ∃ v, L.getD k2 (0, 0, 0) = v := ⟨_, rfl⟩
          obtain ⟨y, gy⟩ : ∃ v, L.getD m (0, 0, 0) = v := ⟨_, rfl⟩
          rw [gx] at d1 d2 d3 hs
          rw [gy] at e1 e2 e3 hs
          have HOr := orderdart_any x.1 x.2.1 x.2.2 y.1 y.2.1 y.2.2
          have ho : ordD x.1 x.2.1 x.2.2 y.1 y.2.1 y.2.2 = ordT x y := rfl
          obtain ⟨ov, gov⟩ : ∃ v, ordT x y = v := ⟨_, rfl⟩
          rw [ho, gov] at HOr
          rw [gov] at hs
          have HOr' := Lib.hid HOr
          have HS := Lib.hid hs
          clear hc hbw gm gx gy ho gov HOr hs
          go_upto_region 11 with fail
          obtain ⟨X, gX⟩ : ∃ v, wr.alloc (.cells #[.int .i64 x.1, .int .i64 x.2.1, .int .i64 x.2.2] 46) = v := ⟨_, rfl⟩
          have hXb : Below wr.heap.size wr X := by rw [← gX]; exact below1 _ _
          have hX : Whole X wr.heap.size 46 [.int .i64 x.1, .int .i64 x.2.1, .int .i64 x.2.2] := by rw [← gX]; exact Whole.new_ wr _ _
          obtain ⟨g, gg⟩ : ∃ v, wr.heap.size = v := ⟨_, rfl⟩
          rw [gX, gg]
          rw [gg] at hX hXb
          have f0 : ∀ w', Kept Nil_ X.drew w' → w'.cell? ⟨g, 0, none⟩ = some (.int .i64 x.1) := fun w' h => h.nil_cell (hX.cell rfl)
          have f1 : ∀ w', Kept Nil_ X.drew w' → w'.cell? ⟨g, 1, none⟩ = some (.int .i64 x.2.1) := fun w' h => h.nil_cell (hX.cell rfl)
          have f2 : ∀ w', Kept Nil_ X.drew w' → w'.cell? ⟨g, 2, none⟩ = some (.int .i64 x.2.2) := fun w' h => h.nil_cell (hX.cell rfl)
          have f3 : ∀ w', Kept Nil_ X.drew w' → w'.cell? ⟨b, off + m * 3, none⟩ = some (.int .i64 y.1) := fun w' h => h.nil_cell ((hXb.cell (by rw [← gg]; exact hb)).trans e1)
          have f4 : ∀ w', Kept Nil_ X.drew w' → w'.cell? ⟨b, off + m * 3 + 1, none⟩ = some (.int .i64 y.2.1) := fun w' h => h.nil_cell ((hXb.cell (by rw [← gg]; exact hb)).trans e2)
          have f5 : ∀ w', Kept Nil_ X.drew w' → w'.cell? ⟨b, off + m * 3 + 2, none⟩ = some (.int .i64 y.2.2) := fun w' h => h.nil_cell ((hXb.cell (by rw [← gg]; exact hb)).trans e3)
          have hE : RowKit.Hid (Below W1.heap.size W1 X) := HBw.out.trans ((show Below wr.heap.size wr X by rw [gg]; exact hXb).mono HBw.out.size)
          clear hX hXb gX gg d1 d2 d3 e1 e2 e3
          by_cases ho : ov < 0
          · rw [if_pos ho] at HS
            refine wp_region_reg (Nil_) (by kernel_rfl) ?_
            apply wpR_next 0 (some 26)
            · simp only [List.getElem?_toArray, List.getElem?_cons_succ, List.getElem?_cons_zero]; exact rfl
            · rfl
            · kernel_rfl
            · kernel_rfl
            · kernel_rfl
            · exact fun _ _ _ _ h => h
            apply Exists.intro
            apply And.intro
            · apply yr_run; rfl; intro w' hw'; go_simp; (try with_reducible rfl)
            simp only [Act.put, List.setIfInBounds_toArray, List.set_cons_zero, List.set_cons_succ]
            apply wpR_next 1 (some 27)
            · simp only [List.getElem?_toArray, List.getElem?_cons_succ, List.getElem?_cons_zero]; exact rfl
            · rfl
            · kernel_rfl
            · kernel_rfl
            · kernel_rfl
            · exact fun _ _ _ _ h => h
            apply Exists.intro
            apply And.intro
            · apply yr_run; rfl; intro w' hw'; go_simp; (try with_reducible rfl)
            simp only [Act.put, List.setIfInBounds_toArray, List.set_cons_zero, List.set_cons_succ]
            apply wpR_next 2 (some 28)
            · simp only [List.getElem?_toArray, List.getElem?_cons_succ, List.getElem?_cons_zero]; exact rfl
            · rfl
            · kernel_rfl
            · kernel_rfl
            · kernel_rfl
            · exact fun _ _ _ _ h => h
            apply Exists.intro
            apply And.intro
            · apply yr_run; rfl; intro w' hw'; go_simp; (try with_reducible rfl)
            simp only [Act.put, List.setIfInBounds_toArray, List.set_cons_zero, List.set_cons_succ]
            apply wpR_next 3 (some 29)
            · simp only [List.getElem?_toArray, List.getElem?_cons_succ, List.getElem?_cons_zero]; exact rfl
            · rfl
            · kernel_rfl
            · kernel_rfl
            · kernel_rfl
            · exact fun _ _ _ _ h => h
            apply Exists.intro
            apply And.intro
            · apply yr_run; rfl; intro w' hw'; go_simp; (try with_reducible rfl)
            simp only [Act.put, List.setIfInBounds_toArray, List.set_cons_zero, List.set_cons_succ]
            apply wpR_next 4 (some 30)
            · simp only [List.getElem?_toArray, List.getElem?_cons_succ, List.getElem?_cons_zero]; exact rfl
            · rfl
            · kernel_rfl
            · kernel_rfl
            · kernel_rfl
            · exact fun _ _ _ _ h => h
            apply Exists.intro
            apply And.intro
            · apply yr_run; rfl; intro w' hw'; go_simp; (try with_reducible rfl)
            simp only [Act.put, List.setIfInBounds_toArray, List.set_cons_zero, List.set_cons_succ]
            apply wpR_next 5 (some 31)
            · simp only [List.getElem?_toArray, List.getElem?_cons_succ, List.getElem?_cons_zero]; exact rfl
            · rfl
            · kernel_rfl
            · kernel_rfl
            · kernel_rfl
            · exact fun _ _ _ _ h => h
            apply Exists.intro
            apply And.intro
            · apply yr_call; rfl; rotate_left; intro w' hw'; exact HOr'.out w'; intro w'; go_simp
            simp only [Act.put, List.setIfInBounds_toArray, List.set_cons_zero, List.set_cons_succ]
            apply wpR_next 6 (some 32)
            · simp only [List.getElem?_toArray, List.getElem?_cons_succ, List.getElem?_cons_zero]; exact rfl
            · rfl
            · kernel_rfl
            · kernel_rfl
            · kernel_rfl
            · exact fun _ _ _ _ h => h
            apply Exists.intro
            apply And.intro
            · apply yr_run; rfl; intro w' hw'; go_simp; (try with_reducible rfl)
            simp only [Act.put, List.setIfInBounds_toArray, List.set_cons_zero, List.set_cons_succ]
            refine wpR_done (by kernel_rfl) ?_ _
            intro w' hw'
            have hE2 : RowKit.Hid (Below W1.heap.size W1 w') := (hE.out.drew).trans (hw'.mono (by have := hE.out.size; simpa using this))
            clear f0 f1 f2 f3 f4 f5 hw'
            go_wp2
            go_roundw
            case rel => exact ⟨k2 + 1, by omega, by go_num, by rw [HS.out], hE2.out⟩
            case measure => simp [intOf]; omega
          · rw [if_neg ho] at HS
            refine wp_region_reg (Nil_) (by kernel_rfl) ?_
            apply wpR_next 0 (some 26)
            · simp only [List.getElem?_toArray, List.getElem?_cons_succ, List.getElem?_cons_zero]; exact rfl
            · rfl
            · kernel_rfl
            · kernel_rfl
            · kernel_rfl
            · exact fun _ _ _ _ h => h
            apply Exists.intro
            apply And.intro
            · apply yr_run; rfl; intro w' hw'; go_simp; (try with_reducible rfl)
            simp only [Act.put, List.setIfInBounds_toArray, List.set_cons_zero, List.set_cons_succ]
            apply wpR_next 1 (some 27)
            · simp only [List.getElem?_toArray, List.getElem?_cons_succ, List.getElem?_cons_zero]; exact rfl
            · rfl
            · kernel_rfl
            · kernel_rfl
            · kernel_rfl
            · exact fun _ _ _ _ h => h
            apply Exists.intro
            apply And.intro
            · apply yr_run; rfl; intro w' hw'; go_simp; (try with_reducible rfl)
            simp only [Act.put, List.setIfInBounds_toArray, List.set_cons_zero, List.set_cons_succ]
            apply wpR_next 2 (some 28)
            · simp only [List.getElem?_toArray, List.getElem?_cons_succ, List.getElem?_cons_zero]; exact rfl
            · rfl
            · kernel_rfl
            · kernel_rfl
            · kernel_rfl
            · exact fun _ _ _ _ h => h
            apply Exists.intro
            apply And.intro
            · apply yr_run; rfl; intro w' hw'; go_simp; (try with_reducible rfl)
            simp only [Act.put, List.setIfInBounds_toArray, List.set_cons_zero, List.set_cons_succ]
            apply wpR_next 3 (some 29)
            · simp only [List.getElem?_toArray, List.getElem?_cons_succ, List.getElem?_cons_zero]; exact rfl
            · rfl
            · kernel_rfl
            · kernel_rfl
            · kernel_rfl
            · exact fun _ _ _ _ h => h
            apply Exists.intro
            apply And.intro
            · apply yr_run; rfl; intro w' hw'; go_simp; (try with_reducible rfl)
            simp only [Act.put, List.setIfInBounds_toArray, List.set_cons_zero, List.set_cons_succ]
            apply wpR_next 4 (some 30)
            · simp only [List.getElem?_toArray, List.getElem?_cons_succ, List.getElem?_cons_zero]; exact rfl
            · rfl
            · kernel_rfl
            · kernel_rfl
            · kernel_rfl
            · exact fun _ _ _ _ h => h
            apply Exists.intro
            apply And.intro
            · apply yr_run; rfl; intro w' hw'; go_simp; (try with_reducible rfl)
            simp only [Act.put, List.setIfInBounds_toArray, List.set_cons_zero, List.set_cons_succ]
            apply wpR_next 5 (some 31)
            · simp only [List.getElem?_toArray, List.getElem?_cons_succ, List.getElem?_cons_zero]; exact rfl
            · rfl
            · kernel_rfl
            · kernel_rfl
            · kernel_rfl
            · exact fun _ _ _ _ h => h
            apply Exists.intro
            apply And.intro
            · apply yr_call; rfl; rotate_left; intro w' hw'; exact HOr'.out w'; intro w'; go_simp
            simp only [Act.put, List.setIfInBounds_toArray, List.set_cons_zero, List.set_cons_succ]
            apply wpR_next 6 (some 32)
            · simp only [List.getElem?_toArray, List.getElem?_cons_succ, List.getElem?_cons_zero]; exact rfl
            · rfl
            · kernel_rfl
            · kernel_rfl
            · kernel_rfl
            · exact fun _ _ _ _ h => h
            apply Exists.intro
            apply And.intro
            · apply yr_run; rfl; intro w' hw'; go_simp; (try with_reducible rfl)
            simp only [Act.put, List.setIfInBounds_toArray, List.set_cons_zero, List.set_cons_succ]
            refine wpR_done (by kernel_rfl) ?_ _
            intro w' hw'
            have hE2 : RowKit.Hid (Below W1.heap.size W1 w') := (hE.out.drew).trans (hw'.mono (by have := hE.out.size; simpa using this))
            clear f0 f1 f2 f3 f4 f5 hw'
            go_wp2
            go_roundw
            case rel => exact ⟨k2 + 1, by omega, by go_num, by rw [HS.out], hE2.out⟩
            case measure => simp [intOf]; omega
        · have hkl : k2 = L.length := by omega
          subst hkl
          have hlm := leastI_le L L.length
          have ht : turnD L = L.drop (leastI L L.length) ++ L.take (leastI L L.length) := rfl
          have hm0 : 0 < L.length → leastI L L.length < L.length := fun h => leastI_lt L L.length h
          obtain ⟨m, gm⟩ : ∃ v, leastI L L.length = v := ⟨_, rfl⟩
          rw [gm] at hlm ht hm0 ⊢
          have HT := Lib.hid ht
          obtain ⟨X1, hs1, hx1, hfx⟩ := sl_lhmF A1 L.length c1 m hlm HR.out.le
          have HFX := Lib.hid (hfx w.heap.size HFR.out)
          obtain ⟨X2, hs2, hx2⟩ := sl_h A1 L.length c1 m hlm HR.out.le
          have RX1 := Lib.hid (fun W B => hx1 W B L)
          have RX2 := Lib.hid (fun W B => hx2 W B L)
          clear ht gm hx1 hx2 hbw hfx
          go_upto_region 14 with fail
          have hE : RowKit.Hid (Below W1.heap.size W1 wr.drew) := HBw.out.drew
          have RR := Lib.hid (HR.out.up hE.out hE.out.size)
          refine wp_region_reg (Nil_) (by kernel_rfl) ?_
          apply wpR_next 0 (some 35)
          · simp only [List.getElem?_toArray, List.getElem?_cons_succ, List.getElem?_cons_zero]; exact rfl
          · rfl
          · kernel_rfl
          · kernel_rfl
          · kernel_rfl
          · exact fun _ _ _ _ h => h
          apply Exists.intro
          apply And.intro
          · apply yr_run; rfl; intro w' hw'; go_simp; (try with_reducible rfl)
          simp only [Act.put, List.setIfInBounds_toArray, List.set_cons_zero, List.set_cons_succ]
          apply wpR_next 1 (some 36)
          · simp only [List.getElem?_toArray, List.getElem?_cons_succ, List.getElem?_cons_zero]; exact rfl
          · rfl
          · kernel_rfl
          · kernel_rfl
          · kernel_rfl
          · exact fun _ _ _ _ h => h
          apply Exists.intro
          apply And.intro
          · apply yr_run; rfl; intro w' hw'; go_simp; (try with_reducible rfl)
          simp only [Act.put, List.setIfInBounds_toArray, List.set_cons_zero, List.set_cons_succ]
          apply wpR_next 2 (some 37)
          · simp only [List.getElem?_toArray, List.getElem?_cons_succ, List.getElem?_cons_zero]; exact rfl
          · rfl
          · kernel_rfl
          · kernel_rfl
          · kernel_rfl
          · exact fun _ _ _ _ h => h
          apply Exists.intro
          apply And.intro
          · apply yr_run; rfl; intro w' hw'; go_simp; (try with_reducible rfl)
          simp only [Act.put, List.setIfInBounds_toArray, List.set_cons_zero, List.set_cons_succ]
          apply wpR_next 3 (some 38)
          · simp only [List.getElem?_toArray, List.getElem?_cons_succ, List.getElem?_cons_zero]; exact rfl
          · rfl
          · kernel_rfl
          · kernel_rfl
          · kernel_rfl
          · exact fun _ _ _ _ h => h
          apply Exists.intro
          apply And.intro
          · apply yr_run; rfl; intro w' hw'; go_simp; (try with_reducible rfl)
          simp only [Act.put, List.setIfInBounds_toArray, List.set_cons_zero, List.set_cons_succ]
          apply wpR_next 4 (some 39)
          · simp only [List.getElem?_toArray, List.getElem?_cons_succ, List.getElem?_cons_zero]; exact rfl
          · rfl
          · kernel_rfl
          · kernel_rfl
          · kernel_rfl
          · exact fun _ _ _ _ h => h
          apply Exists.intro
          apply And.intro
          · apply yr_run; rfl; intro w' hw'; go_simp; (try with_reducible rfl)
          simp only [Act.put, List.setIfInBounds_toArray, List.set_cons_zero, List.set_cons_succ]
          apply wpR_next 5 (some 40)
          · simp only [List.getElem?_toArray, List.getElem?_cons_succ, List.getElem?_cons_zero]; exact rfl
          · rfl
          · kernel_rfl
          · kernel_rfl
          · kernel_rfl
          · exact fun _ _ _ _ h => h
          apply Exists.intro
          apply And.intro
          · apply yr_run; rfl; intro w' hw'; go_simp; (try with_reducible rfl)
          simp only [Act.put, List.setIfInBounds_toArray, List.set_cons_zero, List.set_cons_succ]
          apply wpR_next 6 (some 41)
          · simp only [List.getElem?_toArray, List.getElem?_cons_succ, List.getElem?_cons_zero]; exact rfl
          · rfl
          · kernel_rfl
          · kernel_rfl
          · kernel_rfl
          · exact fun _ _ _ _ h => h
          apply Exists.intro
          apply And.intro
          · apply yr_run; rfl; intro w' hw'; go_simp; (try with_reducible rfl)
          simp only [Act.put, List.setIfInBounds_toArray, List.set_cons_zero, List.set_cons_succ]
          apply wpR_next 7 (some 42)
          · simp only [List.getElem?_toArray, List.getElem?_cons_succ, List.getElem?_cons_zero]; exact rfl
          · rfl
          · kernel_rfl
          · kernel_rfl
          · kernel_rfl
          · exact fun _ _ _ _ h => h
          apply Exists.intro
          apply And.intro
          · apply yr_run; rfl; intro w' hw'; go_simp; (try with_reducible rfl)
          simp only [Act.put, List.setIfInBounds_toArray, List.set_cons_zero, List.set_cons_succ]
          apply wpR_next 8 (some 43)
          · simp only [List.getElem?_toArray, List.getElem?_cons_succ, List.getElem?_cons_zero]; exact rfl
          · rfl
          · kernel_rfl
          · kernel_rfl
          · kernel_rfl
          · exact fun _ _ _ _ h => h
          apply Exists.intro
          apply And.intro
          · apply yr_run; rfl; intro w' hw'; go_simp; (try with_reducible rfl)
          simp only [Act.put, List.setIfInBounds_toArray, List.set_cons_zero, List.set_cons_succ]
          apply wpR_next 9 (some 44)
          · simp only [List.getElem?_toArray, List.getElem?_cons_succ, List.getElem?_cons_zero]; exact rfl
          · rfl
          · kernel_rfl
          · kernel_rfl
          · kernel_rfl
          · exact fun _ _ _ _ h => h
          apply Exists.intro
          apply And.intro
          · apply yr_run; rfl; intro w' hw'; go_simp; (try with_reducible rfl)
          simp only [Act.put, List.setIfInBounds_toArray, List.set_cons_zero, List.set_cons_succ]
          apply wpR_run 10 (some 45)
          · simp only [List.getElem?_toArray, List.getElem?_cons_succ, List.getElem?_cons_zero]; exact rfl
          · rfl
          · kernel_rfl
          · rfl
          intro w' hw'
          have hwsz : w.heap.size ≤ w'.heap.size := (by have e1 := HB.out; have e2 := hE.out; exact Nat.le_trans e1.size (Nat.le_trans e2.size hw'.size))
          have HG : ∃ A3 c3 w'', (Builtin.append_ #[42, 42] 42 #[.slice X1 (L.length - m) (L.length - m), .slice X2 m c1]).run Try.prog w' = .ok (.slice A3 L.length c3) w'' ∧ RdS w'' w''.heap.size 3 A3 L.length c3 (dartsV (L.drop m ++ L.take m)) ∧ Below w'.heap.size w' w'' ∧ (∀ a, A3 = some a → w.heap.size ≤ a.block) := by
            have r1 := RX1.out w' _ (RR.out.up hw' hw'.size)
            have r2 := RX2.out w' _ (RR.out.up hw' hw'.size)
            by_cases h0 : m = 0
            · subst h0
              refine ⟨X1, L.length, w', ?_, ?_, Below.refl _ _, HFX.out⟩
              · have := run_append_none (P := Try.prog) w' 42 42 46 i0 Try.underlying42 hi X1 X2 (L.length - 0) (L.length - 0) c1 (Nat.le_refl _)
                simpa using this
              · simpa using r1
            · obtain ⟨cap, w'', hr, hown, hb⟩ := run_append_full (P := Try.prog) w' 42 42 46 i0 _ 3 24 Try.underlying42 hi hz0 hz1 hz2 rfl (by decide) _ _ X1 X2 (L.length - m) m c1 _ _ r1 r2 (by omega) (by have := hm0 (by omega); omega) (by unfold maxLen; omega) (by omega)
              obtain ⟨A3, c3, hv, hr3⟩ := RdS.of_own hown
              rw [show L.length - m + m = L.length by omega] at hr hv hr3
              have hf3 : ∀ a, A3 = some a → w.heap.size ≤ a.block := (by rintro a rfl; cases hv; exact hwsz)
              rw [hv] at hr
              rw [← dartsV_app] at hr3
              exact ⟨A3, c3, w'', hr, hr3, hb, hf3⟩
          obtain ⟨A3, c3, w3, hrun, hr3, hb3, hf3⟩ := HG
          have HG : RowKit.Hid (∃ A c, Value.slice A3 L.length c3 = .slice A L.length c ∧ RdS w3 w3.heap.size 3 A L.length c (dartsV (L.drop m ++ L.take m)) ∧ Below w.heap.size w w3 ∧ (∀ a, A = some a → w.heap.size ≤ a.block)) := by
            have e1 := HB.out
            have e2 := hE.out
            have h1 : Below w.heap.size w w' := (e1.trans (e2.mono e1.size)).trans (hw'.mono (Nat.le_trans e1.size e2.size))
            exact ⟨A3, c3, rfl, hr3, h1.trans (hb3.mono h1.size), hf3⟩
          refine ⟨_, w3, exec_append rfl rfl rfl hrun, Kept.of_below hb3, ?_⟩
          clear hrun hr3 hb3 hw' hf3 hwsz
          simp only [Act.put, List.setIfInBounds_toArray, List.set_cons_zero, List.set_cons_succ]
          apply wpR_next 11 (some 2)
          · simp only [List.getElem?_toArray, List.getElem?_cons_succ, List.getElem?_cons_zero]; exact rfl
          · rfl
          · kernel_rfl
          · kernel_rfl
          · kernel_rfl
          · exact fun _ _ _ _ h => h
          apply Exists.intro
          apply And.intro
          · apply yr_run; rfl; intro w' hw'; go_simp; (try with_reducible rfl)
          simp only [Act.put, List.setIfInBounds_toArray, List.set_cons_zero, List.set_cons_succ]
          refine wpR_done (by kernel_rfl) ?_ _
          intro w' hw'
          go_wp2
          go_ret
          have hG := HG.out
          obtain ⟨A3, c3, hv, hr3, hb3, hf3⟩ := hG
          have hlen : (turnD L).length = L.length := by rw [HT.out]; simp; omega
          refine ⟨A3, c3, ?_, ?_, ?_, hf3⟩
          · rw [GL.out, hlen]
            exact congrArg _ hv
          · rw [GL.out, hlen, HT.out]
            exact hr3.up hw' hw'.size
          · exact hb3.trans (hw'.mono hb3.size)

theorem turn_parts3F (A A2 : Option Addr) (n c n2 c2 g g1 : Nat) (t t1 : TypeId) (L L2 : List D) (d : D) (w : World) (hg : Whole w g t [.slice A n c, .slice (some ⟨g1, 0, none⟩) 1 1, .slice A2 n2 c2]) (h1 : Whole w g1 t1 (dartsV [d])) (hr : RdS w w.heap.size 3 A n c (dartsV L)) (hr2 : RdS w w.heap.size 3 A2 n2 c2 (dartsV L2)) (hn : n + n2 ≤ 999999) :
    Calls Try.prog 50 #[.slice (some ⟨g, 0, none⟩) 3 3] w (GivesF w (turnD (L ++ d :: L2))) := by
  have h := turned_anyF (some ⟨g, 0, none⟩) 3 3 [L, [d], L2] w (parts3 hg hr (RdS.whole3 h1) hr2) (by omega) (by have := hr.dlen; have := hr2.dlen; simp; omega)
  simpa using h

set_option maxRecDepth 100000 in
set_option maxHeartbeats 1000000 in
theorem rswap_F (A : Option Addr) (n c : Nat) (L : List D) (a d : D) (w : World) (h : RdS w w.heap.size 3 A n c (dartsV L)) (hn : n ≤ 999000) (ha : a ∈ L) (hd : ¬ d ∈ L) :
    Calls Try.prog 39 #[.slice A n c, .agg #[.int .i64 a.1, .int .i64 a.2.1, .int .i64 a.2.2], .agg #[.int .i64 d.1, .int .i64 d.2.1, .int .i64 d.2.2]] w (GivesF w (turnD (swpR L a d))) := by
  have HI := Lib.hid (fun x W h => rindex_any A n c L x W h (by omega))
  have HT := Lib.hid (fun W g t hg hr => turn_of A n c L W g t hg hr (by omega))
  have H := Lib.hid h
  have hl := h.dlen
  obtain ⟨W0, gW0⟩ : ∃ x, (w.alloc (.cells #[.int .i64 a.1, .int .i64 a.2.1, .int .i64 a.2.2] 46)).alloc (.cells #[.int .i64 d.1, .int .i64 d.2.1, .int .i64 d.2.2] 46) = x := ⟨_, rfl⟩
  have hb0 : Below w.heap.size w W0 := by rw [← gW0]; exact below2 _ _ _
  have hA0 : Whole W0 w.heap.size 46 (dartsV [a]) := by rw [← gW0]; exact (Whole.new_ w _ (dartsV [a])).alloc _
  have hD0 : Whole W0 (w.heap.size + 1) 46 (dartsV [d]) := by
    rw [← gW0]
    exact Whole.new2 (cs := dartsV [d]) (by simp)
  have B0 := Lib.hid hb0
  have DD := Lib.hid hD0
  have a0 := hA0.cell (i := 0) rfl
  have a1 := hA0.cell (i := 1) rfl
  have a2 := hA0.cell (i := 2) rfl
  have d0 := hD0.cell (i := 0) rfl
  have d1 := hD0.cell (i := 1) rfl
  have d2 := hD0.cell (i := 2) rfl
  have GW := Lib.hid gW0
  have HIa := Lib.hid (HI.out a)
  have HId := Lib.hid (HI.out d)
  have tok : True := trivial
  clear h gW0 hb0 hA0 hD0 HI
  obtain ⟨i1, i2⟩ := idxD_mem ha
  rw [i1] at HIa
  obtain ⟨k, gk⟩ : ∃ v, L.idxOf a = v := ⟨_, rfl⟩
  rw [gk] at HIa i2
  have hk : k + 1 ≤ n := by omega
  have e1 : swpR L a d = L.take k ++ d :: L.drop (k + 1) := by rw [swpR, if_pos ⟨ha, hd⟩, gk]
  rw [idxD_no hd] at HId
  have E1 := Lib.hid e1
  obtain ⟨k1, gk1⟩ : ∃ v, k + 1 = v := ⟨_, rfl⟩
  have hw1 : IntKind.i64.wrap ((k : Int) + 1) = (k1 : Int) := (IntWalk.i64_in _ (by omega)).trans (by omega)
  rw [gk1] at hk E1
  obtain ⟨X1, hs1, hx1⟩ := sl_h A n c k (by omega) H.out.le
  obtain ⟨X2, hs2, hx2⟩ := sl_l A n c k1 hk H.out.le
  have RX1 := Lib.hid (fun W B => hx1 W B L)
  have RX2 := Lib.hid (fun W B => hx2 W B L)
  have hkk : k ≤ n := by omega
  have GK1 := Lib.hid gk1
  clear hl e1 i1 i2 gk ha hd gk1 hx1 hx2
  go_enter Try.func39, Try.ntmps39
  go_upto_region 1 with fail
  rw [GW.out]
  go_upto_region 4 with (first
    | (go_at_call 33; have _t := tok; refine (HIa.out _ (by exact H.out.up B0.out B0.out.size)).mono ?_; rintro e w2 ⟨rfl, hb2⟩; have B2 := Lib.hid (B0.out.trans (hb2.mono B0.out.size)); have D2 := Lib.hid (DD.out.below hb2); have q0 := D2.out.cell (i := 0) rfl; have q1 := D2.out.cell (i := 1) rfl; have q2 := D2.out.cell (i := 2) rfl; clear hb2 tok)
    | (go_at_call 33; refine (HId.out _ (by exact H.out.up B2.out B2.out.size)).mono ?_; rintro e w3 ⟨rfl, hb3⟩; have B3 := Lib.hid (B2.out.trans (hb3.mono B2.out.size)); have D3 := Lib.hid (D2.out.below hb3); clear hb3))
  have f0 : ∀ w', Kept Nil_ w3.drew w' → w'.cell? ⟨w.heap.size + 1, 0, none⟩ = some (.int .i64 d.1) := fun w' h => h.nil_cell (D3.out.drew.cell rfl)
  have f1 : ∀ w', Kept Nil_ w3.drew w' → w'.cell? ⟨w.heap.size + 1, 1, none⟩ = some (.int .i64 d.2.1) := fun w' h => h.nil_cell (D3.out.drew.cell rfl)
  have f2 : ∀ w', Kept Nil_ w3.drew w' → w'.cell? ⟨w.heap.size + 1, 2, none⟩ = some (.int .i64 d.2.2) := fun w' h => h.nil_cell (D3.out.drew.cell rfl)
  have hE : RowKit.Hid (Below w.heap.size w w3.drew) := B3.out.drew
  clear q0 q1 q2 d0 d1 d2 a0 a1 a2
  refine wp_region_reg (Nil_) (by kernel_rfl) ?_
  apply wpR_next 0 (some 22)
  · simp only [List.getElem?_toArray, List.getElem?_cons_succ, List.getElem?_cons_zero]; exact rfl
  · rfl
  · kernel_rfl
  · kernel_rfl
  · kernel_rfl
  · exact fun _ _ _ _ h => h
  apply Exists.intro
  apply And.intro
  · apply yr_run; rfl; intro w' hw'; go_simp; (try with_reducible rfl)
  simp only [Act.put, List.setIfInBounds_toArray, List.set_cons_zero, List.set_cons_succ]
  apply wpR_next 1 (some 23)
  · simp only [List.getElem?_toArray, List.getElem?_cons_succ, List.getElem?_cons_zero]; exact rfl
  · rfl
  · kernel_rfl
  · kernel_rfl
  · kernel_rfl
  · exact fun _ _ _ _ h => h
  apply Exists.intro
  apply And.intro
  · apply yr_run; rfl; intro w' hw'; go_simp; (try with_reducible rfl)
  simp only [Act.put, List.setIfInBounds_toArray, List.set_cons_zero, List.set_cons_succ]
  apply wpR_next 2 (some 24)
  · simp only [List.getElem?_toArray, List.getElem?_cons_succ, List.getElem?_cons_zero]; exact rfl
  · rfl
  · kernel_rfl
  · kernel_rfl
  · kernel_rfl
  · exact fun _ _ _ _ h => h
  apply Exists.intro
  apply And.intro
  · apply yr_run; rfl; intro w' hw'; go_simp; (try with_reducible rfl)
  simp only [Act.put, List.setIfInBounds_toArray, List.set_cons_zero, List.set_cons_succ]
  apply wpR_next 3 (some 25)
  · simp only [List.getElem?_toArray, List.getElem?_cons_succ, List.getElem?_cons_zero]; exact rfl
  · rfl
  · kernel_rfl
  · kernel_rfl
  · kernel_rfl
  · exact fun _ _ _ _ h => h
  apply Exists.intro
  apply And.intro
  · apply yr_run; rfl; intro w' hw'; go_simp; (try with_reducible rfl)
  simp only [Act.put, List.setIfInBounds_toArray, List.set_cons_zero, List.set_cons_succ]
  apply wpR_next 5 (some 27)
  · simp only [List.getElem?_toArray, List.getElem?_cons_succ, List.getElem?_cons_zero]; exact rfl
  · rfl
  · kernel_rfl
  · kernel_rfl
  · kernel_rfl
  · exact fun _ _ _ _ h => h
  apply Exists.intro
  apply And.intro
  · apply yr_run; rfl; intro w' hw'; go_simp; (try with_reducible rfl)
  simp only [Act.put, List.setIfInBounds_toArray, List.set_cons_zero, List.set_cons_succ]
  apply wpR_next 6 (some 28)
  · simp only [List.getElem?_toArray, List.getElem?_cons_succ, List.getElem?_cons_zero]; exact rfl
  · rfl
  · kernel_rfl
  · kernel_rfl
  · kernel_rfl
  · exact fun _ _ _ _ h => h
  apply Exists.intro
  apply And.intro
  · apply yr_run; rfl; intro w' hw'; go_simp; (try with_reducible rfl)
  simp only [Act.put, List.setIfInBounds_toArray, List.set_cons_zero, List.set_cons_succ]
  apply wpR_next 7 (some 29)
  · simp only [List.getElem?_toArray, List.getElem?_cons_succ, List.getElem?_cons_zero]; exact rfl
  · rfl
  · kernel_rfl
  · kernel_rfl
  · kernel_rfl
  · exact fun _ _ _ _ h => h
  apply Exists.intro
  apply And.intro
  · apply yr_run; rfl; intro w' hw'; go_simp; (try with_reducible rfl)
  simp only [Act.put, List.setIfInBounds_toArray, List.set_cons_zero, List.set_cons_succ]
  apply wpR_next 8 (some 30)
  · simp only [List.getElem?_toArray, List.getElem?_cons_succ, List.getElem?_cons_zero]; exact rfl
  · rfl
  · kernel_rfl
  · kernel_rfl
  · kernel_rfl
  · exact fun _ _ _ _ h => h
  apply Exists.intro
  apply And.intro
  · apply yr_run; rfl; intro w' hw'; go_simp; (try with_reducible rfl)
  simp only [Act.put, List.setIfInBounds_toArray, List.set_cons_zero, List.set_cons_succ]
  apply wpR_run 4 (some 26)
  · simp only [List.getElem?_toArray, List.getElem?_cons_succ, List.getElem?_cons_zero]; exact rfl
  · rfl
  · kernel_rfl
  · rfl
  intro w' hw'
  apply Exists.intro
  apply Exists.intro
  apply And.intro
  · go_simp; exact ⟨rfl, rfl⟩
  apply And.intro
  · exact Kept.of_below (below1 _ _)
  obtain ⟨g1, gg1⟩ : ∃ x, w'.heap.size = x := ⟨_, rfl⟩
  obtain ⟨W1, gW1⟩ : ∃ x, w'.alloc (.cells #[.int .i64 d.1, .int .i64 d.2.1, .int .i64 d.2.2] 46) = x := ⟨_, rfl⟩
  have hD1 : RowKit.Hid (Whole W1 g1 46 (dartsV [d])) := (by rw [← gW1, ← gg1]; exact Whole.new_ w' _ (dartsV [d]))
  have hE1 : RowKit.Hid (Below w.heap.size w W1) := (by rw [← gW1]; exact (hE.out.trans (hw'.mono hE.out.size)).alloc (Nat.le_trans hE.out.size hw'.size) _)
  rw [gW1, gg1]
  clear gW1 gg1 hw'
  simp only [Act.put, List.setIfInBounds_toArray, List.set_cons_zero, List.set_cons_succ]
  apply wpR_run 9 (some 31)
  · simp only [List.getElem?_toArray, List.getElem?_cons_succ, List.getElem?_cons_zero]; exact rfl
  · rfl
  · kernel_rfl
  · rfl
  intro w' hw'
  apply Exists.intro
  apply Exists.intro
  apply And.intro
  · go_simp; exact ⟨rfl, rfl⟩
  apply And.intro
  · exact Kept.of_below (below1 _ _)
  obtain ⟨g2, gg2⟩ : ∃ x, w'.heap.size = x := ⟨_, rfl⟩
  obtain ⟨W2, gW2⟩ : ∃ x, w'.alloc (.cells #[.slice X1 k c, .slice (some ⟨g1, 0, none⟩) 1 1, .slice X2 (n - k1) (c - k1)] 42) = x := ⟨_, rfl⟩
  have hD2 : RowKit.Hid (Whole W2 g1 46 (dartsV [d])) := (by rw [← gW2]; exact (hD1.out.below hw').alloc _)
  have hP2 : RowKit.Hid (Whole W2 g2 42 [.slice X1 k c, .slice (some ⟨g1, 0, none⟩) 1 1, .slice X2 (n - k1) (c - k1)]) := (by rw [← gW2, ← gg2]; exact Whole.new_ w' _ [.slice X1 k c, .slice (some ⟨g1, 0, none⟩) 1 1, .slice X2 (n - k1) (c - k1)])
  have hE2 : RowKit.Hid (Below w.heap.size w W2) := (by rw [← gW2]; exact (hE1.out.trans (hw'.mono hE1.out.size)).alloc (Nat.le_trans hE1.out.size hw'.size) _)
  rw [gW2, gg2]
  clear gW2 gg2 hw'
  simp only [Act.put, List.setIfInBounds_toArray, List.set_cons_zero, List.set_cons_succ]
  apply wpR_call 10 (some 32)
  · simp only [List.getElem?_toArray, List.getElem?_cons_succ, List.getElem?_cons_zero]; exact rfl
  · rfl
  · kernel_rfl
  · rfl
  · intro w'; go_simp; first | done | exact ⟨rfl, rfl⟩ | with_reducible rfl
  intro w' hw'
  have hE3 := hE2.out.trans (hw'.mono hE2.out.size)
  have r := H.out.up hE3 hE3.size
  refine (turn_parts3F X1 X2 k c (n - k1) (c - k1) g2 g1 _ _ (L.take k) (L.drop k1) d w' (hP2.out.below hw') (hD2.out.below hw') (RX1.out _ _ r) (RX2.out _ _ r) (by have := GK1.out; omega)).mono ?_
  rintro e w5 ⟨A3, c3, rfl, hr3, hb3, hf3⟩
  have HG : RowKit.Hid (∃ A3' c3', Ending.returned (Value.slice A3 (turnD (L.take k ++ d :: L.drop k1)).length c3) = .returned (.slice A3' (turnD (L.take k ++ d :: L.drop k1)).length c3') ∧ RdS w5 w5.heap.size 3 A3' (turnD (L.take k ++ d :: L.drop k1)).length c3' (dartsV (turnD (L.take k ++ d :: L.drop k1))) ∧ Below w.heap.size w w5 ∧ (∀ a, A3' = some a → w.heap.size ≤ a.block)) := ⟨A3, c3, rfl, hr3, hE3.trans (hb3.mono hE3.size), fun a e => Nat.le_trans hE3.size (hf3 a e)⟩
  refine ⟨_, rfl, Kept.of_below hb3, ?_⟩
  clear hr3 hb3 hw' hE3 r hf3
  simp only [Act.put, List.setIfInBounds_toArray, List.set_cons_zero, List.set_cons_succ]
  apply wpR_next 11 (some 6)
  · simp only [List.getElem?_toArray, List.getElem?_cons_succ, List.getElem?_cons_zero]; exact rfl
  · rfl
  · kernel_rfl
  · kernel_rfl
  · kernel_rfl
  · exact fun _ _ _ _ h => h
  apply Exists.intro
  apply And.intro
  · apply yr_run; rfl; intro w' hw'; go_simp; (try with_reducible rfl)
  simp only [Act.put, List.setIfInBounds_toArray, List.set_cons_zero, List.set_cons_succ]
  refine wpR_done (by kernel_rfl) ?_ _
  intro w' hw'
  go_wp2
  go_ret
  obtain ⟨A3, c3, hv, hr3, hb3, hf3⟩ := HG.out
  rw [E1.out]
  exact ⟨A3, c3, hv, hr3.up hw' hw'.size, hb3.trans (hw'.mono hb3.size), hf3⟩
end Go.Proofs.Ytgbkloilodgjfaa
