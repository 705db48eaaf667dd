/- The document's Same and Faces. -/
import Derived.Test.YtjkbcpikdkidhaaFc12
import Derived.Test.YtjkbcpikdkidhaaFc13
import Derived.Test.YtjkbcpikdkidhaaFc8
namespace Go.Proofs.Ytjkbcpikdkidhaa
open Go.RowKit
set_option linter.unusedSimpArgs false
set_option linter.unusedVariables false

set_option maxRecDepth 100000 in
set_option maxHeartbeats 4000000 in
theorem rsame5_any (A : Option Addr) (n c : Nat) (X : List (Rw D)) (A' : Option Addr) (c' : Nat) (Z : List (Rw D)) (lo lo' : Nat) (w : World) (hX : RowsIn w lo 35 29 3 encD A n c X) (hZ : RowsIn w lo' 35 29 3 encD A' n c' Z) (he : X.map (·.2.2) = Z.map (·.2.2)) (hl : ∀ x ∈ X, x.2.2.length ≤ 1000000) (hn : n ≤ 1000000) :
    Calls Try.prog 25 #[.slice A n c, .slice A' n c'] w fun e w' => e = .returned (.bool true) ∧ Below w.heap.size w w' := by
  have HX := Lib.hid hX
  have HZ := Lib.hid hZ
  have He := Lib.hid he
  have Hl := Lib.hid hl
  have hcn : ((n : Int) != (n : Int)) = false := by simp
  clear hX hZ he hl
  go_enter Try.func25, Try.ntmps25
  go_wp2
  clear hcn
  go_loopw [5] (fun si wr => ∃ i : Nat, i ≤ n ∧ si = .int .i64 i ∧ RowKit.Hid (Below w.heap.size w wr)) (fun si _ => n - (intOf si).toNat)
  case atStart => exact ⟨0, by omega, rfl, Lib.hid (Below.refl _ _)⟩
  case round =>
    obtain ⟨i, hi, rfl, HBo⟩ := hrel
    obtain ⟨wo, gwo⟩ : ∃ z, wr = z := ⟨_, rfl⟩
    rw [gwo] at HBo ⊢
    clear gwo
    by_cases hin : i < n
    · skip
      obtain ⟨x, hx⟩ : ∃ x, X[i]? = some x := ⟨_, List.getElem?_eq_getElem (by have := HX.out.len; omega)⟩
      obtain ⟨z, hz⟩ : ∃ z, Z[i]? = some z := ⟨_, List.getElem?_eq_getElem (by have := HZ.out.len; omega)⟩
      have exz : z.2.2 = x.2.2 := by
        have h1 : (X.map (·.2.2))[i]? = (Z.map (·.2.2))[i]? := by rw [He.out]
        rw [List.getElem?_map, List.getElem?_map, hx, hz] at h1
        exact (Option.some.inj h1).symm
      obtain ⟨gp, junk, eA, -, -, hcx, -, -⟩ := own_poke (i := 0) (y := x) (u := rwV x) rwC_len HX.out.row hx hin (by decide) rfl
      subst eA
      obtain ⟨gq, junk2, eB, -, -, hcz, -, -⟩ := own_poke (i := 0) (y := z) (u := rwV z) rwC_len HZ.out.row hz hin (by decide) rfl
      subst eB
      simp only [Nat.mul_one, Nat.add_zero] at hcx hcz
      have hr := HX.out.one x (List.mem_of_getElem? hx)
      have hs := HZ.out.one z (List.mem_of_getElem? hz)
      have hxl := Hl.out x (List.mem_of_getElem? hx)
      obtain ⟨pA, pc, xl⟩ := x
      obtain ⟨qA, qc, zl⟩ := z
      obtain rfl : zl = xl := exz
      obtain ⟨xn, gxn⟩ : ∃ z, zl.length = z := ⟨_, rfl⟩
      replace hcx : w.cell? ⟨gp, i, none⟩ = some (.slice pA xn pc) := by rw [← gxn]; exact hcx
      replace hcz : w.cell? ⟨gq, i, none⟩ = some (.slice qA xn qc) := by rw [← gxn]; exact hcz
      have HCp : RowKit.Hid (∀ W, Below w.heap.size w W → W.cell? ⟨gp, i, none⟩ = some (.slice pA xn pc)) := Lib.hid (fun W hb => (hb.cell (p := ⟨gp, i, none⟩) (World.block_lt_of_cell? _ _ hcx)).trans hcx)
      have HCq : RowKit.Hid (∀ W, Below w.heap.size w W → W.cell? ⟨gq, i, none⟩ = some (.slice qA xn qc)) := Lib.hid (fun W hb => (hb.cell (p := ⟨gq, i, none⟩) (World.block_lt_of_cell? _ _ hcz)).trans hcz)
      have hRp : RdS w w.heap.size 3 pA xn pc (dartsV zl) := by have h1 := own_rds hr; rw [rowsD] at h1; rw [← gxn]; exact h1
      have hRq : RdS w w.heap.size 3 qA xn qc (dartsV zl) := by have h1 := own_rds hs; rw [rowsD] at h1; rw [← gxn]; exact h1
      have HIe : RowKit.Hid (∀ W, Below w.heap.size w W → Calls Try.prog 20 #[.slice pA xn pc, .slice qA xn qc] W fun e w' => e = .returned (.bool true) ∧ Below W.heap.size W w') := Lib.hid (fun W hb => by
        have h1 := rdarts_any pA qA xn xn pc qc zl zl W (hRp.bl hb) (hRq.bl hb) (by have : zl.length ≤ 1000000 := hxl; omega)
        simpa using h1)
      clear hcx hcz hr hs hxl gxn hRp hRq
      clear hx hz
      go_upto_region 6 with fail
      have Bel_911 := Lib.hid (bel_dr HBo.out)
      have ld912 : ∀ w', Kept Nil_ wo.drew w' → w'.cell? ⟨gp, i, none⟩ = some (.slice pA xn pc) := fun w' h => h.nil_cell (HCp.out _ (bel_dr HBo.out))
      have ld913 : ∀ w', Kept Nil_ wo.drew w' → w'.cell? ⟨gq, i, none⟩ = some (.slice qA xn qc) := fun w' h => h.nil_cell (HCq.out _ (bel_dr HBo.out))
      refine wp_region_reg Nil_ (by kernel_rfl) ?_
      apply wpR_next 0 (some 18)
      · simp only [List.getElem?_toArray, List.getElem?_cons_succ, List.getElem?_cons_zero]; exact rfl
      · rfl
      · kernel_rfl
      · kernel_rfl
      · kernel_rfl
      · exact fun _ _ _ _ h => h
      apply Exists.intro
      apply And.intro
      · apply yr_run; rfl; intro w' hw'; go_simp; (try with_reducible rfl)
      simp only [Act.put, List.setIfInBounds_toArray, List.set_cons_zero, List.set_cons_succ]
      apply wpR_next 1 (some 19)
      · simp only [List.getElem?_toArray, List.getElem?_cons_succ, List.getElem?_cons_zero]; exact rfl
      · rfl
      · kernel_rfl
      · kernel_rfl
      · kernel_rfl
      · exact fun _ _ _ _ h => h
      apply Exists.intro
      apply And.intro
      · apply yr_run; rfl; intro w' hw'; go_simp; (try with_reducible rfl)
      simp only [Act.put, List.setIfInBounds_toArray, List.set_cons_zero, List.set_cons_succ]
      apply wpR_next 2 (some 20)
      · simp only [List.getElem?_toArray, List.getElem?_cons_succ, List.getElem?_cons_zero]; exact rfl
      · rfl
      · kernel_rfl
      · kernel_rfl
      · kernel_rfl
      · exact fun _ _ _ _ h => h
      apply Exists.intro
      apply And.intro
      · apply yr_run; rfl; intro w' hw'; go_simp; (try with_reducible rfl)
      simp only [Act.put, List.setIfInBounds_toArray, List.set_cons_zero, List.set_cons_succ]
      apply wpR_next 3 (some 21)
      · simp only [List.getElem?_toArray, List.getElem?_cons_succ, List.getElem?_cons_zero]; exact rfl
      · rfl
      · kernel_rfl
      · kernel_rfl
      · kernel_rfl
      · exact fun _ _ _ _ h => h
      apply Exists.intro
      apply And.intro
      · apply yr_run; rfl; intro w' hw'; go_simp; (try with_reducible rfl)
      simp only [Act.put, List.setIfInBounds_toArray, List.set_cons_zero, List.set_cons_succ]
      apply wpR_next 4 (some 22)
      · simp only [List.getElem?_toArray, List.getElem?_cons_succ, List.getElem?_cons_zero]; exact rfl
      · rfl
      · kernel_rfl
      · kernel_rfl
      · kernel_rfl
      · exact fun _ _ _ _ h => h
      apply Exists.intro
      apply And.intro
      · apply yr_run; rfl; intro w' hw'; go_simp; (try with_reducible rfl)
      simp only [Act.put, List.setIfInBounds_toArray, List.set_cons_zero, List.set_cons_succ]
      apply wpR_next 5 (some 23)
      · simp only [List.getElem?_toArray, List.getElem?_cons_succ, List.getElem?_cons_zero]; exact rfl
      · rfl
      · kernel_rfl
      · kernel_rfl
      · kernel_rfl
      · exact fun _ _ _ _ h => h
      apply Exists.intro
      apply And.intro
      · apply yr_run; rfl; intro w' hw'; go_simp; (try with_reducible rfl)
      simp only [Act.put, List.setIfInBounds_toArray, List.set_cons_zero, List.set_cons_succ]
      apply wpR_next 6 (some 24)
      · simp only [List.getElem?_toArray, List.getElem?_cons_succ, List.getElem?_cons_zero]; exact rfl
      · rfl
      · kernel_rfl
      · kernel_rfl
      · kernel_rfl
      · exact fun _ _ _ _ h => h
      apply Exists.intro
      apply And.intro
      · apply yr_run; rfl; intro w' hw'; go_simp; (try with_reducible rfl)
      simp only [Act.put, List.setIfInBounds_toArray, List.set_cons_zero, List.set_cons_succ]
      apply wpR_next 7 (some 25)
      · simp only [List.getElem?_toArray, List.getElem?_cons_succ, List.getElem?_cons_zero]; exact rfl
      · rfl
      · kernel_rfl
      · kernel_rfl
      · kernel_rfl
      · exact fun _ _ _ _ h => h
      apply Exists.intro
      apply And.intro
      · apply yr_run; rfl; intro w' hw'; go_simp; (try with_reducible rfl)
      simp only [Act.put, List.setIfInBounds_toArray, List.set_cons_zero, List.set_cons_succ]
      apply wpR_call 8 (some 26)
      · simp only [List.getElem?_toArray, List.getElem?_cons_succ, List.getElem?_cons_zero]; exact rfl
      · rfl
      · kernel_rfl
      · rfl
      · intro w'; go_simp; first | done | exact ⟨rfl, rfl⟩ | with_reducible rfl
      intro w' hw'
      refine (HIe.out _ (bel_bl Bel_911.out hw')).mono ?_
      rintro e w914 ⟨rfl, hb914⟩
      have Bel_914 := Lib.hid (bel_bl (bel_bl Bel_911.out hw') hb914)
      have ld915 := fun w'' (h : Kept Nil_ w914 w'') => ld912 w'' ((Kept.of_ext hw').trans ((Kept.of_below hb914).trans h))
      have ld916 := fun w'' (h : Kept Nil_ w914 w'') => ld913 w'' ((Kept.of_ext hw').trans ((Kept.of_below hb914).trans h))
      refine ⟨_, rfl, Kept.of_below hb914, ?_⟩
      clear hw' hb914
      simp only [Act.put, List.setIfInBounds_toArray, List.set_cons_zero, List.set_cons_succ]
      apply wpR_next 9 (some 6)
      · simp only [List.getElem?_toArray, List.getElem?_cons_succ, List.getElem?_cons_zero]; exact rfl
      · rfl
      · kernel_rfl
      · kernel_rfl
      · kernel_rfl
      · exact fun _ _ _ _ h => h
      apply Exists.intro
      apply And.intro
      · apply yr_run; rfl; intro w' hw'; go_simp; (try with_reducible rfl)
      simp only [Act.put, List.setIfInBounds_toArray, List.set_cons_zero, List.set_cons_succ]
      refine wpR_done (by kernel_rfl) ?_ _
      intro w917 hw'
      have Bel_918 := Lib.hid (bel_bl Bel_914.out hw')
      clear Bel_914
      clear hw'
      have HBn := Lib.hid Bel_918.out
      clear Bel_918
      go_wp2
      go_roundw
      case rel => exact ⟨i + 1, by omega, by go_num, HBn⟩
      case measure => simp [intOf] <;> omega
    · obtain rfl : n = i := by omega
      go_wp2
      go_ret
      exact ⟨rfl, HBo.out⟩
end Go.Proofs.Ytjkbcpikdkidhaa
