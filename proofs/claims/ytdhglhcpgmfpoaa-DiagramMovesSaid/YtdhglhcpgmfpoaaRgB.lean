/- Rings turned to their least: the contract of ring.turned. -/
import Derived.Test.YtdhglhcpgmfpoaaRgA
import Derived.Test.YtdhglhcpgmfpoaaBase
namespace Go.Proofs.Ytdhglhcpgmfpoaa
open Go.RowKit
set_option linter.unusedSimpArgs false

theorem info_dart : (Try.prog.info? 36).map (fun i => (i.zero, i.size, i.bytes)) = some (some (.agg #[.int .i64 0, .int .i64 0, .int .i64 0]), 3, 24) := by kernel_rfl

/-- A call that answers a slice that reads as these darts, and leaves all that was there as it was. -/
def GivesR (w : World) (L : List D) (e : Ending) (w' : World) : Prop :=
  ∃ A c, e = .returned (.slice A L.length c) ∧ RdS w' w'.heap.size 3 A L.length c (dartsV L) ∧ Below w.heap.size w w'

/-- The parts of a ring, as they lie in a slice of slices. -/
structure Parts (w : World) (A : Option Addr) (n : Nat) (Ps : List (List D)) : Prop where
  len : Ps.length = n
  part : ∀ k, k < n → ∃ b off A' c', A = some ⟨b, off, none⟩ ∧ b < w.heap.size ∧ w.cell? ⟨b, off + k, none⟩ = some (.slice A' (Ps.getD k []).length c') ∧ RdS w w.heap.size 3 A' (Ps.getD k []).length c' (dartsV (Ps.getD k []))
theorem Parts.up {w w' : World} {A : Option Addr} {n : Nat} {Ps : List (List D)} (h : Parts w A n Ps) (hb : Below w.heap.size w w') : Parts w' A n Ps :=
  ⟨h.len, fun k hk => by
    obtain ⟨b, off, A', c', e, hb1, hc, hr⟩ := h.part k hk
    exact ⟨b, off, A', c', e, Nat.lt_of_lt_of_le hb1 hb.size, (hb.cell hb1).trans hc, hr.up hb hb.size⟩⟩

theorem flat_take (Ps : List (List D)) (k : Nat) (hk : k < Ps.length) : (Ps.take (k + 1)).flatten = (Ps.take k).flatten ++ Ps.getD k [] := by
  rw [List.take_succ_eq_append_getElem hk, List.flatten_append]
  simp [hk]
theorem flat_le (Ps : List (List D)) (k : Nat) : (Ps.take k).flatten.length ≤ Ps.flatten.length := by
  conv => rhs; rw [← List.take_append_drop k Ps, List.flatten_append, List.length_append]
  omega

theorem elem_darts : Try.prog.underlying 37 = some (.slice (Try.prog.elem 37)) := by kernel_rfl
theorem size_darts (W : World) : (sizeOf (Try.prog.elem 37)).run Try.prog W = .ok 3 W := by kernel_rfl

/-- l[lo:len(l):len(l)]. -/
theorem sl_lhm (A : Option Addr) (n c lo : Nat) (h1 : lo ≤ n) (h2 : n ≤ c) : ∃ X, (∀ W, (Instr.slice 37 (.slice A n c) (some (.int .i64 (lo : Int))) (some (.int .i64 (n : Int))) (some (.int .i64 (n : Int)))).run Try.prog W = .ok (.slice X (n - lo) (n - lo)) W) ∧
    ∀ W B L, RdS W B 3 A n c (dartsV L) → RdS W B 3 X (n - lo) (n - lo) (dartsV (L.drop lo)) := by
  refine ⟨if n = lo then A else A.map (·.add (lo * 3)), fun W => ?_, fun W B L h => ?_⟩
  · rw [run_slice_lhm W 37 A n c elem_darts .i64 .i64 .i64 lo n n (by omega) (by omega) (by omega) (by omega), size_darts]
    simp [sliced, Result.andThen]
  · have := h.piece h1 (Nat.le_refl n) (Nat.le_refl n) h2
    rwa [List.take_of_length_le (by rw [h.dlen]; omega)] at this
/-- l[:hi]. -/
theorem sl_h (A : Option Addr) (n c hi : Nat) (h1 : hi ≤ n) (h2 : n ≤ c) : ∃ X, (∀ W, (Instr.slice 37 (.slice A n c) none (some (.int .i64 (hi : Int))) none).run Try.prog W = .ok (.slice X hi c) W) ∧
    ∀ W B L, RdS W B 3 A n c (dartsV L) → RdS W B 3 X hi c (dartsV (L.take hi)) := by
  refine ⟨if c = 0 then A else A.map (·.add (0 * 3)), fun W => ?_, fun W B L h => ?_⟩
  · rw [run_slice_h W 37 A n c elem_darts .i64 hi (by omega) (by omega), size_darts]
    simp [sliced, Result.andThen]
  · have := h.piece (lo := 0) (Nat.zero_le _) h1 (Nat.le_trans h1 h2) (Nat.le_refl c)
    simpa using this
/-- l[lo:]. -/
theorem sl_l (A : Option Addr) (n c lo : Nat) (h1 : lo ≤ n) (h2 : n ≤ c) : ∃ X, (∀ W, (Instr.slice 37 (.slice A n c) (some (.int .i64 (lo : Int))) none none).run Try.prog W = .ok (.slice X (n - lo) (c - lo)) W) ∧
    ∀ W B L, RdS W B 3 A n c (dartsV L) → RdS W B 3 X (n - lo) (c - lo) (dartsV (L.drop lo)) := by
  refine ⟨if c = lo then A else A.map (·.add (lo * 3)), fun W => ?_, fun W B L h => ?_⟩
  · rw [run_slice_l W 37 A n c elem_darts .i64 lo (by omega) (by omega), size_darts]
    simp [sliced, Result.andThen]
  · have := h.piece h1 (Nat.le_refl n) h2 (Nat.le_refl c)
    rwa [List.take_of_length_le (by rw [h.dlen]; omega)] at this


set_option maxRecDepth 100000 in
set_option maxHeartbeats 1000000 in
theorem turned_any (A : Option Addr) (n c : Nat) (Ps : List (List D)) (w : World) (h : Parts w A n Ps) (hn : n ≤ 100) (hm : Ps.flatten.length ≤ 1000000) :
    Calls Try.prog 76 #[.slice A n c] w (GivesR w (turnD Ps.flatten)) := by
  obtain ⟨i0, hi, hz0, hz1, hz2⟩ := info_parts info_dart
  have H := Lib.hid h
  clear h
  go_enter Try.func76, Try.ntmps76
  go_wp2
  go_loopw [3, 11] (fun v i wr => ∃ k : Nat, k ≤ n ∧ i = .int .i64 k ∧ Ow w w.heap.size 36 3 v (Ps.take k).flatten.length (dartsV (Ps.take k).flatten) wr) (fun _ i _ => n - (intOf i).toNat)
  case atStart => exact ⟨0, Nat.zero_le _, rfl, by simpa [dartsV] using Ow.nil_ (Below.refl _ w) (Nat.le_refl _) (Nat.le_refl _)⟩
  case round =>
    obtain ⟨k, hk, rfl, how⟩ := hrel
    have HO := Lib.hid how
    by_cases hlt : k < n
    · obtain ⟨b, off, A', c', rfl, hb, hc, hr⟩ := (H.out.up (how.below)).part k hlt
      have HR := Lib.hid hr
      have HF := Lib.hid (flat_take Ps k (by have := H.out.len; omega))
      have hle : ((Ps.take k).flatten.length + (Ps.getD k []).length) ≤ 1000000 := by
        have := flat_le Ps (k + 1)
        rw [HF.out, List.length_append] at this
        omega
      clear how hr
      obtain ⟨P, gP⟩ : ∃ v, Ps.getD k [] = v := ⟨_, rfl⟩
      rw [gP] at hc HR HF hle
      clear gP
      go_wp2_with (first
        | (at_builtin
           refine wpList_push rfl (.tmp 15) (.tmp 16) _ rfl _ 36 i0 _ 3 24 Try.underlying37 hi hz0 hz1 hz2 rfl (by decide) _ _ _ rfl (by exact HO.out) _ _ _ _ _ rfl (by exact HR.out) (dartsV_one P) (by unfold maxLen; omega) (by omega) ?_
           intro v1 w1 how1 hb1
           have HO1 := Lib.hid how1
           clear how1))
      go_roundw
      case rel =>
        refine ⟨k + 1, by omega, by go_num, ?_⟩
        rw [HF.out, List.length_append, dartsV_app]
        exact HO1.out
      case measure => simp [intOf]; omega
    · have hkn : k = n := by omega
      have htk : Ps.take k = Ps := List.take_of_length_le (by have := H.out.len; omega)
      rw [htk] at HO
      clear how htk hkn
      obtain ⟨L, gL⟩ : ∃ v, Ps.flatten = v := ⟨_, rfl⟩
      rw [gL] at HO hm
      have GL := Lib.hid gL
      clear gL
      obtain ⟨A1, c1, hv, hr1⟩ := HO.out.rds
      subst hv
      have HR := Lib.hid hr1
      clear hr1
      have HB := Lib.hid HO.out.below
      clear HO H
      obtain ⟨W1, rfl⟩ : ∃ x : World, x = wr := ⟨_, rfl⟩
      go_wp2
      go_loopw [6, 21] (fun lv i wr => ∃ k : Nat, k ≤ L.length ∧ i = .int .i64 k ∧ lv = .int .i64 (leastI L k : Int) ∧ Below W1.heap.size W1 wr) (fun _ i _ => L.length - (intOf i).toNat)
      case atStart => exact ⟨0, Nat.zero_le _, rfl, rfl, Below.refl _ _⟩
      case round =>
        obtain ⟨k2, hk2, rfl, rfl, hbw⟩ := hrel
        have HBw := Lib.hid hbw
        by_cases hlt2 : k2 < L.length
        · obtain ⟨b, off, rfl, hb, hc⟩ := (HR.out.up hbw hbw.size).darts (by omega)
          obtain ⟨d1, d2, d3⟩ := hc k2 hlt2
          have hlm := leastI_le L k2
          have hlm2 : leastI L k2 < L.length := by omega
          obtain ⟨e1, e2, e3⟩ := hc (leastI L k2) hlm2
          have hs : leastI L (k2 + 1) = if ordT (L.getD k2 (0, 0, 0)) (L.getD (leastI L k2) (0, 0, 0)) < 0 then k2 else leastI L k2 := rfl
          obtain ⟨m, gm⟩ : ∃ v, leastI L k2 = v := ⟨_, rfl⟩
          rw [gm] at e1 e2 e3 hlm hlm2 hs ⊢
          obtain ⟨x, gx⟩ : ∃ v, L.getD k2 (0, 0, 0) = v := ⟨_, rfl⟩
          obtain ⟨y, gy⟩ : ∃ v, L.getD m (0, 0, 0) = v := ⟨_, rfl⟩
          rw [gx] at d1 d2 d3 hs
          rw [gy] at e1 e2 e3 hs
          have HOr := orderdart_any x.1 x.2.1 x.2.2 y.1 y.2.1 y.2.2
          have ho : ordD x.1 x.2.1 x.2.2 y.1 y.2.1 y.2.2 = ordT x y := rfl
          obtain ⟨ov, gov⟩ : ∃ v, ordT x y = v := ⟨_, rfl⟩
          rw [ho, gov] at HOr
          rw [gov] at hs
          have HOr' := Lib.hid HOr
          have HS := Lib.hid hs
          clear hc hbw gm gx gy ho gov HOr hs
          go_upto_region 11 with fail
          obtain ⟨X, gX⟩ : ∃ v, wr.alloc (.cells #[.int .i64 x.1, .int .i64 x.2.1, .int .i64 x.2.2] 36) = v := ⟨_, rfl⟩
          have hXb : Below wr.heap.size wr X := by rw [← gX]; exact below1 _ _
          have hX : Whole X wr.heap.size 36 [.int .i64 x.1, .int .i64 x.2.1, .int .i64 x.2.2] := by rw [← gX]; exact Whole.new_ wr _ _
          obtain ⟨g, gg⟩ : ∃ v, wr.heap.size = v := ⟨_, rfl⟩
          rw [gX, gg]
          rw [gg] at hX hXb
          have f0 : ∀ w', Kept Nil_ X.drew w' → w'.cell? ⟨g, 0, none⟩ = some (.int .i64 x.1) := fun w' h => h.nil_cell (hX.cell rfl)
          have f1 : ∀ w', Kept Nil_ X.drew w' → w'.cell? ⟨g, 1, none⟩ = some (.int .i64 x.2.1) := fun w' h => h.nil_cell (hX.cell rfl)
          have f2 : ∀ w', Kept Nil_ X.drew w' → w'.cell? ⟨g, 2, none⟩ = some (.int .i64 x.2.2) := fun w' h => h.nil_cell (hX.cell rfl)
          have f3 : ∀ w', Kept Nil_ X.drew w' → w'.cell? ⟨b, off + m * 3, none⟩ = some (.int .i64 y.1) := fun w' h => h.nil_cell ((hXb.cell (by rw [← gg]; exact hb)).trans e1)
          have f4 : ∀ w', Kept Nil_ X.drew w' → w'.cell? ⟨b, off + m * 3 + 1, none⟩ = some (.int .i64 y.2.1) := fun w' h => h.nil_cell ((hXb.cell (by rw [← gg]; exact hb)).trans e2)
          have f5 : ∀ w', Kept Nil_ X.drew w' → w'.cell? ⟨b, off + m * 3 + 2, none⟩ = some (.int .i64 y.2.2) := fun w' h => h.nil_cell ((hXb.cell (by rw [← gg]; exact hb)).trans e3)
          have hE : RowKit.Hid (Below W1.heap.size W1 X) := HBw.out.trans ((show Below wr.heap.size wr X by rw [gg]; exact hXb).mono HBw.out.size)
          clear hX hXb gX gg d1 d2 d3 e1 e2 e3
          by_cases ho : ov < 0
          · rw [if_pos ho] at HS
            refine wp_region_reg (Nil_) (by kernel_rfl) ?_
            apply wpR_next 0 (some 26)
            · simp only [List.getElem?_toArray, List.getElem?_cons_succ, List.getElem?_cons_zero]; exact rfl
            · rfl
            · kernel_rfl
            · kernel_rfl
            · kernel_rfl
            · exact fun _ _ _ _ h => h
            apply Exists.intro
            apply And.intro
            · apply yr_run; rfl; intro w' hw'; go_simp; (try with_reducible rfl)
            simp only [Act.put, List.setIfInBounds_toArray, List.set_cons_zero, List.set_cons_succ]
            apply wpR_next 1 (some 27)
            · simp only [List.getElem?_toArray, List.getElem?_cons_succ, List.getElem?_cons_zero]; exact rfl
            · rfl
            · kernel_rfl
            · kernel_rfl
            · kernel_rfl
            · exact fun _ _ _ _ h => h
            apply Exists.intro
            apply And.intro
            · apply yr_run; rfl; intro w' hw'; go_simp; (try with_reducible rfl)
            simp only [Act.put, List.setIfInBounds_toArray, List.set_cons_zero, List.set_cons_succ]
            apply wpR_next 2 (some 28)
            · simp only [List.getElem?_toArray, List.getElem?_cons_succ, List.getElem?_cons_zero]; exact rfl
            · rfl
            · kernel_rfl
            · kernel_rfl
            · kernel_rfl
            · exact fun _ _ _ _ h => h
            apply Exists.intro
            apply And.intro
            · apply yr_run; rfl; intro w' hw'; go_simp; (try with_reducible rfl)
            simp only [Act.put, List.setIfInBounds_toArray, List.set_cons_zero, List.set_cons_succ]
            apply wpR_next 3 (some 29)
            · simp only [List.getElem?_toArray, List.getElem?_cons_succ, List.getElem?_cons_zero]; exact rfl
            · rfl
            · kernel_rfl
            · kernel_rfl
            · kernel_rfl
            · exact fun _ _ _ _ h => h
            apply Exists.intro
            apply And.intro
            · apply yr_run; rfl; intro w' hw'; go_simp; (try with_reducible rfl)
            simp only [Act.put, List.setIfInBounds_toArray, List.set_cons_zero, List.set_cons_succ]
            apply wpR_next 4 (some 30)
            · simp only [List.getElem?_toArray, List.getElem?_cons_succ, List.getElem?_cons_zero]; exact rfl
            · rfl
            · kernel_rfl
            · kernel_rfl
            · kernel_rfl
            · exact fun _ _ _ _ h => h
            apply Exists.intro
            apply And.intro
            · apply yr_run; rfl; intro w' hw'; go_simp; (try with_reducible rfl)
            simp only [Act.put, List.setIfInBounds_toArray, List.set_cons_zero, List.set_cons_succ]
            apply wpR_next 5 (some 31)
            · simp only [List.getElem?_toArray, List.getElem?_cons_succ, List.getElem?_cons_zero]; exact rfl
            · rfl
            · kernel_rfl
            · kernel_rfl
            · kernel_rfl
            · exact fun _ _ _ _ h => h
            apply Exists.intro
            apply And.intro
            · apply yr_call; rfl; rotate_left; intro w' hw'; exact HOr'.out w'; intro w'; go_simp
            simp only [Act.put, List.setIfInBounds_toArray, List.set_cons_zero, List.set_cons_succ]
            apply wpR_next 6 (some 32)
            · simp only [List.getElem?_toArray, List.getElem?_cons_succ, List.getElem?_cons_zero]; exact rfl
            · rfl
            · kernel_rfl
            · kernel_rfl
            · kernel_rfl
            · exact fun _ _ _ _ h => h
            apply Exists.intro
            apply And.intro
            · apply yr_run; rfl; intro w' hw'; go_simp; (try with_reducible rfl)
            simp only [Act.put, List.setIfInBounds_toArray, List.set_cons_zero, List.set_cons_succ]
            refine wpR_done (by kernel_rfl) ?_ _
            intro w' hw'
            have hE2 : RowKit.Hid (Below W1.heap.size W1 w') := (hE.out.drew).trans (hw'.mono (by have := hE.out.size; simpa using this))
            clear f0 f1 f2 f3 f4 f5 hw'
            go_wp2
            go_roundw
            case rel => exact ⟨k2 + 1, by omega, by go_num, by rw [HS.out], hE2.out⟩
            case measure => simp [intOf]; omega
          · rw [if_neg ho] at HS
            refine wp_region_reg (Nil_) (by kernel_rfl) ?_
            apply wpR_next 0 (some 26)
            · simp only [List.getElem?_toArray, List.getElem?_cons_succ, List.getElem?_cons_zero]; exact rfl
            · rfl
            · kernel_rfl
            · kernel_rfl
            · kernel_rfl
            · exact fun _ _ _ _ h => h
            apply Exists.intro
            apply And.intro
            · apply yr_run; rfl; intro w' hw'; go_simp; (try with_reducible rfl)
            simp only [Act.put, List.setIfInBounds_toArray, List.set_cons_zero, List.set_cons_succ]
            apply wpR_next 1 (some 27)
            · simp only [List.getElem?_toArray, List.getElem?_cons_succ, List.getElem?_cons_zero]; exact rfl
            · rfl
            · kernel_rfl
            · kernel_rfl
            · kernel_rfl
            · exact fun _ _ _ _ h => h
            apply Exists.intro
            apply And.intro
            · apply yr_run; rfl; intro w' hw'; go_simp; (try with_reducible rfl)
            simp only [Act.put, List.setIfInBounds_toArray, List.set_cons_zero, List.set_cons_succ]
            apply wpR_next 2 (some 28)
            · simp only [List.getElem?_toArray, List.getElem?_cons_succ, List.getElem?_cons_zero]; exact rfl
            · rfl
            · kernel_rfl
            · kernel_rfl
            · kernel_rfl
            · exact fun _ _ _ _ h => h
            apply Exists.intro
            apply And.intro
            · apply yr_run; rfl; intro w' hw'; go_simp; (try with_reducible rfl)
            simp only [Act.put, List.setIfInBounds_toArray, List.set_cons_zero, List.set_cons_succ]
            apply wpR_next 3 (some 29)
            · simp only [List.getElem?_toArray, List.getElem?_cons_succ, List.getElem?_cons_zero]; exact rfl
            · rfl
            · kernel_rfl
            · kernel_rfl
            · kernel_rfl
            · exact fun _ _ _ _ h => h
            apply Exists.intro
            apply And.intro
            · apply yr_run; rfl; intro w' hw'; go_simp; (try with_reducible rfl)
            simp only [Act.put, List.setIfInBounds_toArray, List.set_cons_zero, List.set_cons_succ]
            apply wpR_next 4 (some 30)
            · simp only [List.getElem?_toArray, List.getElem?_cons_succ, List.getElem?_cons_zero]; exact rfl
            · rfl
            · kernel_rfl
            · kernel_rfl
            · kernel_rfl
            · exact fun _ _ _ _ h => h
            apply Exists.intro
            apply And.intro
            · apply yr_run; rfl; intro w' hw'; go_simp; (try with_reducible rfl)
            simp only [Act.put, List.setIfInBounds_toArray, List.set_cons_zero, List.set_cons_succ]
            apply wpR_next 5 (some 31)
            · simp only [List.getElem?_toArray, List.getElem?_cons_succ, List.getElem?_cons_zero]; exact rfl
            · rfl
            · kernel_rfl
            · kernel_rfl
            · kernel_rfl
            · exact fun _ _ _ _ h => h
            apply Exists.intro
            apply And.intro
            · apply yr_call; rfl; rotate_left; intro w' hw'; exact HOr'.out w'; intro w'; go_simp
            simp only [Act.put, List.setIfInBounds_toArray, List.set_cons_zero, List.set_cons_succ]
            apply wpR_next 6 (some 32)
            · simp only [List.getElem?_toArray, List.getElem?_cons_succ, List.getElem?_cons_zero]; exact rfl
            · rfl
            · kernel_rfl
            · kernel_rfl
            · kernel_rfl
            · exact fun _ _ _ _ h => h
            apply Exists.intro
            apply And.intro
            · apply yr_run; rfl; intro w' hw'; go_simp; (try with_reducible rfl)
            simp only [Act.put, List.setIfInBounds_toArray, List.set_cons_zero, List.set_cons_succ]
            refine wpR_done (by kernel_rfl) ?_ _
            intro w' hw'
            have hE2 : RowKit.Hid (Below W1.heap.size W1 w') := (hE.out.drew).trans (hw'.mono (by have := hE.out.size; simpa using this))
            clear f0 f1 f2 f3 f4 f5 hw'
            go_wp2
            go_roundw
            case rel => exact ⟨k2 + 1, by omega, by go_num, by rw [HS.out], hE2.out⟩
            case measure => simp [intOf]; omega
        · have hkl : k2 = L.length := by omega
          subst hkl
          have hlm := leastI_le L L.length
          have ht : turnD L = L.drop (leastI L L.length) ++ L.take (leastI L L.length) := rfl
          have hm0 : 0 < L.length → leastI L L.length < L.length := fun h => leastI_lt L L.length h
          obtain ⟨m, gm⟩ : ∃ v, leastI L L.length = v := ⟨_, rfl⟩
          rw [gm] at hlm ht hm0 ⊢
          have HT := Lib.hid ht
          obtain ⟨X1, hs1, hx1⟩ := sl_lhm A1 L.length c1 m hlm HR.out.le
          obtain ⟨X2, hs2, hx2⟩ := sl_h A1 L.length c1 m hlm HR.out.le
          have RX1 := Lib.hid (fun W B => hx1 W B L)
          have RX2 := Lib.hid (fun W B => hx2 W B L)
          clear ht gm hx1 hx2 hbw
          go_upto_region 14 with fail
          have hE : RowKit.Hid (Below W1.heap.size W1 wr.drew) := HBw.out.drew
          have RR := Lib.hid (HR.out.up hE.out hE.out.size)
          refine wp_region_reg (Nil_) (by kernel_rfl) ?_
          apply wpR_next 0 (some 35)
          · simp only [List.getElem?_toArray, List.getElem?_cons_succ, List.getElem?_cons_zero]; exact rfl
          · rfl
          · kernel_rfl
          · kernel_rfl
          · kernel_rfl
          · exact fun _ _ _ _ h => h
          apply Exists.intro
          apply And.intro
          · apply yr_run; rfl; intro w' hw'; go_simp; (try with_reducible rfl)
          simp only [Act.put, List.setIfInBounds_toArray, List.set_cons_zero, List.set_cons_succ]
          apply wpR_next 1 (some 36)
          · simp only [List.getElem?_toArray, List.getElem?_cons_succ, List.getElem?_cons_zero]; exact rfl
          · rfl
          · kernel_rfl
          · kernel_rfl
          · kernel_rfl
          · exact fun _ _ _ _ h => h
          apply Exists.intro
          apply And.intro
          · apply yr_run; rfl; intro w' hw'; go_simp; (try with_reducible rfl)
          simp only [Act.put, List.setIfInBounds_toArray, List.set_cons_zero, List.set_cons_succ]
          apply wpR_next 2 (some 37)
          · simp only [List.getElem?_toArray, List.getElem?_cons_succ, List.getElem?_cons_zero]; exact rfl
          · rfl
          · kernel_rfl
          · kernel_rfl
          · kernel_rfl
          · exact fun _ _ _ _ h => h
          apply Exists.intro
          apply And.intro
          · apply yr_run; rfl; intro w' hw'; go_simp; (try with_reducible rfl)
          simp only [Act.put, List.setIfInBounds_toArray, List.set_cons_zero, List.set_cons_succ]
          apply wpR_next 3 (some 38)
          · simp only [List.getElem?_toArray, List.getElem?_cons_succ, List.getElem?_cons_zero]; exact rfl
          · rfl
          · kernel_rfl
          · kernel_rfl
          · kernel_rfl
          · exact fun _ _ _ _ h => h
          apply Exists.intro
          apply And.intro
          · apply yr_run; rfl; intro w' hw'; go_simp; (try with_reducible rfl)
          simp only [Act.put, List.setIfInBounds_toArray, List.set_cons_zero, List.set_cons_succ]
          apply wpR_next 4 (some 39)
          · simp only [List.getElem?_toArray, List.getElem?_cons_succ, List.getElem?_cons_zero]; exact rfl
          · rfl
          · kernel_rfl
          · kernel_rfl
          · kernel_rfl
          · exact fun _ _ _ _ h => h
          apply Exists.intro
          apply And.intro
          · apply yr_run; rfl; intro w' hw'; go_simp; (try with_reducible rfl)
          simp only [Act.put, List.setIfInBounds_toArray, List.set_cons_zero, List.set_cons_succ]
          apply wpR_next 5 (some 40)
          · simp only [List.getElem?_toArray, List.getElem?_cons_succ, List.getElem?_cons_zero]; exact rfl
          · rfl
          · kernel_rfl
          · kernel_rfl
          · kernel_rfl
          · exact fun _ _ _ _ h => h
          apply Exists.intro
          apply And.intro
          · apply yr_run; rfl; intro w' hw'; go_simp; (try with_reducible rfl)
          simp only [Act.put, List.setIfInBounds_toArray, List.set_cons_zero, List.set_cons_succ]
          apply wpR_next 6 (some 41)
          · simp only [List.getElem?_toArray, List.getElem?_cons_succ, List.getElem?_cons_zero]; exact rfl
          · rfl
          · kernel_rfl
          · kernel_rfl
          · kernel_rfl
          · exact fun _ _ _ _ h => h
          apply Exists.intro
          apply And.intro
          · apply yr_run; rfl; intro w' hw'; go_simp; (try with_reducible rfl)
          simp only [Act.put, List.setIfInBounds_toArray, List.set_cons_zero, List.set_cons_succ]
          apply wpR_next 7 (some 42)
          · simp only [List.getElem?_toArray, List.getElem?_cons_succ, List.getElem?_cons_zero]; exact rfl
          · rfl
          · kernel_rfl
          · kernel_rfl
          · kernel_rfl
          · exact fun _ _ _ _ h => h
          apply Exists.intro
          apply And.intro
          · apply yr_run; rfl; intro w' hw'; go_simp; (try with_reducible rfl)
          simp only [Act.put, List.setIfInBounds_toArray, List.set_cons_zero, List.set_cons_succ]
          apply wpR_next 8 (some 43)
          · simp only [List.getElem?_toArray, List.getElem?_cons_succ, List.getElem?_cons_zero]; exact rfl
          · rfl
          · kernel_rfl
          · kernel_rfl
          · kernel_rfl
          · exact fun _ _ _ _ h => h
          apply Exists.intro
          apply And.intro
          · apply yr_run; rfl; intro w' hw'; go_simp; (try with_reducible rfl)
          simp only [Act.put, List.setIfInBounds_toArray, List.set_cons_zero, List.set_cons_succ]
          apply wpR_next 9 (some 44)
          · simp only [List.getElem?_toArray, List.getElem?_cons_succ, List.getElem?_cons_zero]; exact rfl
          · rfl
          · kernel_rfl
          · kernel_rfl
          · kernel_rfl
          · exact fun _ _ _ _ h => h
          apply Exists.intro
          apply And.intro
          · apply yr_run; rfl; intro w' hw'; go_simp; (try with_reducible rfl)
          simp only [Act.put, List.setIfInBounds_toArray, List.set_cons_zero, List.set_cons_succ]
          apply wpR_run 10 (some 45)
          · simp only [List.getElem?_toArray, List.getElem?_cons_succ, List.getElem?_cons_zero]; exact rfl
          · rfl
          · kernel_rfl
          · rfl
          intro w' hw'
          have HG : ∃ A3 c3 w'', (Builtin.append_ #[37, 37] 37 #[.slice X1 (L.length - m) (L.length - m), .slice X2 m c1]).run Try.prog w' = .ok (.slice A3 L.length c3) w'' ∧ RdS w'' w''.heap.size 3 A3 L.length c3 (dartsV (L.drop m ++ L.take m)) ∧ Below w'.heap.size w' w'' := by
            have r1 := RX1.out w' _ (RR.out.up hw' hw'.size)
            have r2 := RX2.out w' _ (RR.out.up hw' hw'.size)
            by_cases h0 : m = 0
            · subst h0
              refine ⟨X1, L.length, w', ?_, ?_, Below.refl _ _⟩
              · have := run_append_none (P := Try.prog) w' 37 37 36 i0 Try.underlying37 hi X1 X2 (L.length - 0) (L.length - 0) c1 (Nat.le_refl _)
                simpa using this
              · simpa using r1
            · obtain ⟨cap, w'', hr, hown, hb⟩ := run_append_full (P := Try.prog) w' 37 37 36 i0 _ 3 24 Try.underlying37 hi hz0 hz1 hz2 rfl (by decide) _ _ X1 X2 (L.length - m) m c1 _ _ r1 r2 (by omega) (by have := hm0 (by omega); omega) (by unfold maxLen; omega) (by omega)
              obtain ⟨A3, c3, hv, hr3⟩ := RdS.of_own hown
              rw [show L.length - m + m = L.length by omega] at hr hv hr3
              rw [hv] at hr
              rw [← dartsV_app] at hr3
              exact ⟨A3, c3, w'', hr, hr3, hb⟩
          obtain ⟨A3, c3, w3, hrun, hr3, hb3⟩ := HG
          have HG : RowKit.Hid (∃ A c, Value.slice A3 L.length c3 = .slice A L.length c ∧ RdS w3 w3.heap.size 3 A L.length c (dartsV (L.drop m ++ L.take m)) ∧ Below w.heap.size w w3) := by
            have e1 := HB.out
            have e2 := hE.out
            have h1 : Below w.heap.size w w' := (e1.trans (e2.mono e1.size)).trans (hw'.mono (Nat.le_trans e1.size e2.size))
            exact ⟨A3, c3, rfl, hr3, h1.trans (hb3.mono h1.size)⟩
          refine ⟨_, w3, exec_append rfl rfl rfl hrun, Kept.of_below hb3, ?_⟩
          clear hrun hr3 hb3 hw'
          simp only [Act.put, List.setIfInBounds_toArray, List.set_cons_zero, List.set_cons_succ]
          apply wpR_next 11 (some 2)
          · simp only [List.getElem?_toArray, List.getElem?_cons_succ, List.getElem?_cons_zero]; exact rfl
          · rfl
          · kernel_rfl
          · kernel_rfl
          · kernel_rfl
          · exact fun _ _ _ _ h => h
          apply Exists.intro
          apply And.intro
          · apply yr_run; rfl; intro w' hw'; go_simp; (try with_reducible rfl)
          simp only [Act.put, List.setIfInBounds_toArray, List.set_cons_zero, List.set_cons_succ]
          refine wpR_done (by kernel_rfl) ?_ _
          intro w' hw'
          go_wp2
          go_ret
          have hG := HG.out
          obtain ⟨A3, c3, hv, hr3, hb3⟩ := hG
          have hlen : (turnD L).length = L.length := by rw [HT.out]; simp; omega
          refine ⟨A3, c3, ?_, ?_, ?_⟩
          · rw [GL.out, hlen]
            exact congrArg _ hv
          · rw [GL.out, hlen, HT.out]
            exact hr3.up hw' hw'.size
          · exact hb3.trans (hw'.mono hb3.size)
end Go.Proofs.Ytdhglhcpgmfpoaa
