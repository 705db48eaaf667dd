/- The document's Show. -/
import Derived.Test.YtinhenmafjoaoaaGreatDoorDk2
namespace Go.Proofs.YtinhenmafjoaoaaGreatDoor
open Go.RowKit
set_option linter.unusedSimpArgs false
set_option linter.unusedVariables false

theorem add_str (a b c : List UInt8) (h : a ++ b = c) (hs : c.length ≤ 100000) (W : World) : (Op.stringOp .add (bS a) (bS b)).run Tryz.prog W = .ok (.string (bS c)) W := by
  have h1 : (bS a).size + (bS b).size ≤ 9223372036854775807 := by
    rw [bS_size, bS_size]
    have := congrArg List.length h
    rw [List.length_append] at this
    omega
  rw [run_string_add_sum (P := Tryz.prog) (w := W) (bS a) (bS b) h1, bS_app, h]
theorem line3 (a b c : Int) : lineB [a, b, c] = Lib.itoa a ++ [32] ++ Lib.itoa b ++ [32] ++ Lib.itoa c ++ [10] := by
  simp [lineB, Lib.join, List.intercalate, List.intersperse]
theorem line5 (a b c d e : Int) : lineB [a, b, c, d, e] = Lib.itoa a ++ [32] ++ Lib.itoa b ++ [32] ++ Lib.itoa c ++ [32] ++ Lib.itoa d ++ [32] ++ Lib.itoa e ++ [10] := by
  simp [lineB, Lib.join, List.intercalate, List.intersperse]
set_option maxRecDepth 100000 in
set_option maxHeartbeats 4000000 in
theorem rshow_any (A : Option Addr) (n c : Nat) (L : List AnT) (w : World) (h : RdS w w.heap.size 4 A n c (rowsV anC L)) (hA : ∀ x ∈ L, AnOk w x) (hn : n ≤ 100) (ht : Tb w) :
    Calls Tryz.prog 7 #[.slice A n c] w fun e w' => e = .returned (.string (bS (showB L))) ∧ Below w.heap.size w w' := by
  have Hl := Lib.hid (h.rlen anC_len (by decide))
  have H := Lib.hid h
  have HA := Lib.hid hA
  have HT := Lib.hid ht
  have HLs := Lib.hid (fun (j : Nat) => showB_len (w := w) (X := L.take j) (fun x hx => hA x (List.mem_of_mem_take hx)))
  have HB0 := Lib.hid (Below.refl w.heap.size w)
  clear h hA ht
  go_enter Tryz.func7, Tryz.ntmps7
  go_upto_region 3 with fail
  obtain ⟨S0, gS0⟩ : ∃ z, ({ data := #[] } : ByteArray) = z := ⟨_, rfl⟩
  have HS0 : RowKit.Hid (S0 = bS (showB (L.take 0))) := Lib.hid gS0.symm
  rw [gS0]
  clear gS0
  go_loopw [3, 4] (fun vs vi wr => ∃ (j : Nat) (S : ByteArray), j ≤ n ∧ vi = .int .i64 (j : Int) ∧ vs = .string S ∧ RowKit.Hid (S = bS (showB (L.take j))) ∧ RowKit.Hid (Below w.heap.size w wr)) (fun _ vi _ => n - (intOf vi).toNat)
  case atStart => exact ⟨0, S0, Nat.zero_le _, rfl, rfl, HS0, HB0⟩
  case round =>
    clear HS0 HB0
    obtain ⟨j, S, hj, rfl, rfl, HS, HB⟩ := hrel
    obtain ⟨wo, gwo⟩ : ∃ z, wr = z := ⟨_, rfl⟩
    rw [gwo] at HB ⊢
    clear gwo
    by_cases hjn : j < n
    · have hji : (j : Int) < (n : Int) := by omega
      obtain ⟨x, hx⟩ : ∃ x, L[j]? = some x := ⟨_, List.getElem?_eq_getElem (by have := Hl.out; omega)⟩
      obtain ⟨bb, off, rfl, hbB, hpl⟩ := H.out.place anC_len (by decide) (by omega)
      have hp : ∀ i u, (anC x)[i]? = some u → wo.cell? ((⟨bb, off + j * 4, none⟩ : Addr).add i) = some u := fun i u hu => (HB.out.cell (by rw [add_block]; exact hbB)).trans (hpl j x hx i u hu)
      have hok := HA.out x (List.mem_of_getElem? hx)
      have HN : RowKit.Hid (showB (L.take (j + 1)) = showB (L.take j) ++ lineB (nsA x)) := Lib.hid (showB_next hx)
      have hl1 := HLs.out (j + 1)
      rw [HN.out, List.length_take, List.length_append] at hl1
      have hns : nsA x = if x.b = [] then [x.k, x.n, x.m] else [x.k, x.n, x.m, (x.b.length : Int), (crc x.b : Int)] := rfl
      have hcr := crc_lt hok.b
      have hlen := hok.len
      obtain ⟨xk, xn, xm, xa, xl, xc, xb⟩ := x
      obtain ⟨hr, hb8, hk, hnn, hm, hs⟩ := hok
      have l0 := hp 0 _ rfl
      have l1 := hp 1 _ rfl
      have l2 := hp 2 _ rfl
      have l3 := hp 3 _ rfl
      simp only [Addr.add_lit, Nat.add_zero, Nat.zero_add] at l0 l1 l2 l3
      dsimp only at hr hb8 hk hnn hm hs hlen hns hcr
      have HI1 := Lib.hid (fun w' (h : Kept Nil_ wo.drew w') => itoa_any xk hk w' (HT.out.bl (HB.out.drew.trans (h.below (by exact HB.out.size) (fun _ _ q => q)))))
      have HI2 := Lib.hid (fun w' (h : Kept Nil_ wo.drew w') => itoa_any xn hnn w' (HT.out.bl (HB.out.drew.trans (h.below (by exact HB.out.size) (fun _ _ q => q)))))
      have HI3 := Lib.hid (fun w' (h : Kept Nil_ wo.drew w') => itoa_any xm hm w' (HT.out.bl (HB.out.drew.trans (h.below (by exact HB.out.size) (fun _ _ q => q)))))
      obtain ⟨T0, gT0⟩ : ∃ z, showB (L.take j) = z := ⟨_, rfl⟩
      rw [gT0] at HN hl1 HS
      have h3s : T0.length + (Lib.itoa xk ++ [32] ++ Lib.itoa xn ++ [32] ++ Lib.itoa xm).length ≤ 12000 := by
        have h21 := Lib.itoa_length_le xk hk.1 hk.2
        have h22 := Lib.itoa_length_le xn hnn.1 hnn.2
        have h23 := Lib.itoa_length_le xm hm.1 hm.2
        have : 111 * min (j + 1) L.length ≤ 11100 := by have := Hl.out; omega
        simp only [List.length_append, List.length_cons, List.length_nil]
        omega
      obtain ⟨i1_, gi1⟩ : ∃ z, Lib.itoa xk = z := ⟨_, rfl⟩
      obtain ⟨i2_, gi2⟩ : ∃ z, Lib.itoa xn = z := ⟨_, rfl⟩
      obtain ⟨i3_, gi3⟩ : ∃ z, Lib.itoa xm = z := ⟨_, rfl⟩
      rw [gi1] at HI1
      rw [gi2] at HI2
      rw [gi3] at HI3
      rw [gi1, gi2, gi3] at h3s
      simp only [List.length_append, List.length_cons, List.length_nil] at h3s
      have a1 : ∀ W, (Op.stringOp .add (bS T0) (bS i1_)).run Tryz.prog W = .ok (.string (bS (T0 ++ i1_))) W := fun W => add_str _ _ _ rfl (by simp only [List.length_append, List.length_cons, List.length_nil]; omega) W
      have a2 : ∀ W, (Op.stringOp .add (bS (T0 ++ i1_)) { data := #[32] }).run Tryz.prog W = .ok (.string (bS (T0 ++ i1_ ++ [32]))) W := fun W => add_str _ [32] _ rfl (by simp only [List.length_append, List.length_cons, List.length_nil]; omega) W
      have a3 : ∀ W, (Op.stringOp .add (bS (T0 ++ i1_ ++ [32])) (bS i2_)).run Tryz.prog W = .ok (.string (bS (T0 ++ i1_ ++ [32] ++ i2_))) W := fun W => add_str _ _ _ rfl (by simp only [List.length_append, List.length_cons, List.length_nil]; omega) W
      have a4 : ∀ W, (Op.stringOp .add (bS (T0 ++ i1_ ++ [32] ++ i2_)) { data := #[32] }).run Tryz.prog W = .ok (.string (bS (T0 ++ i1_ ++ [32] ++ i2_ ++ [32]))) W := fun W => add_str _ [32] _ rfl (by simp only [List.length_append, List.length_cons, List.length_nil]; omega) W
      have a5 : ∀ W, (Op.stringOp .add (bS (T0 ++ i1_ ++ [32] ++ i2_ ++ [32])) (bS i3_)).run Tryz.prog W = .ok (.string (bS (T0 ++ i1_ ++ [32] ++ i2_ ++ [32] ++ i3_))) W := fun W => add_str _ _ _ rfl (by simp only [List.length_append, List.length_cons, List.length_nil]; omega) W
      rw [HS.out]
      have HT5l : RowKit.Hid ((T0 ++ i1_ ++ [32] ++ i2_ ++ [32] ++ i3_).length ≤ 12000) := Lib.hid (by simp only [List.length_append, List.length_cons, List.length_nil]; omega)
      obtain ⟨t0, g0⟩ : ∃ z, bS T0 = z := ⟨_, rfl⟩
      obtain ⟨s1_, g1⟩ : ∃ z, bS i1_ = z := ⟨_, rfl⟩
      obtain ⟨s2_, g2⟩ : ∃ z, bS i2_ = z := ⟨_, rfl⟩
      obtain ⟨s3_, g3⟩ : ∃ z, bS i3_ = z := ⟨_, rfl⟩
      obtain ⟨t1, g4⟩ : ∃ z, bS (T0 ++ i1_) = z := ⟨_, rfl⟩
      obtain ⟨t2, g5⟩ : ∃ z, bS (T0 ++ i1_ ++ [32]) = z := ⟨_, rfl⟩
      obtain ⟨t3, g6⟩ : ∃ z, bS (T0 ++ i1_ ++ [32] ++ i2_) = z := ⟨_, rfl⟩
      obtain ⟨t4, g7⟩ : ∃ z, bS (T0 ++ i1_ ++ [32] ++ i2_ ++ [32]) = z := ⟨_, rfl⟩
      obtain ⟨t5, g8⟩ : ∃ z, bS (T0 ++ i1_ ++ [32] ++ i2_ ++ [32] ++ i3_) = z := ⟨_, rfl⟩
      rw [g0, g1, g4] at a1
      rw [g4, g5] at a2
      rw [g5, g2, g6] at a3
      rw [g6, g7] at a4
      rw [g7, g3, g8] at a5
      rw [g0]
      rw [g1] at HI1
      rw [g2] at HI2
      rw [g3] at HI3
      have HG8 := Lib.hid g8
      have HW1 := Lib.hid gi1
      have HW2 := Lib.hid gi2
      have HW3 := Lib.hid gi3
      have HP := Lib.hid (And.intro l0 (And.intro l1 (And.intro l2 l3)))
      have HR := Lib.hid hr
      clear g0 g1 g2 g3 g4 g5 g6 g7 g8 gi1 gi2 gi3 gT0 hp hx hpl HS h3s hl1
      go_upto_region 5 with fail
      have ld0 : ∀ w', Kept Nil_ wo.drew w' → w'.cell? ⟨bb, off + j * 4, none⟩ = some (.int .i64 xk) := fun w' h => h.nil_cell l0
      have ld1 : ∀ w', Kept Nil_ wo.drew w' → w'.cell? ⟨bb, off + j * 4 + 1, none⟩ = some (.int .i64 xn) := fun w' h => h.nil_cell l1
      have ld2 : ∀ w', Kept Nil_ wo.drew w' → w'.cell? ⟨bb, off + j * 4 + 2, none⟩ = some (.int .i64 xm) := fun w' h => h.nil_cell l2
      clear l0 l1 l2 l3
      refine wp_region_reg (Nil_) (by kernel_rfl) ?_
      apply wpR_next 0 (some 11)
      · simp only [List.getElem?_toArray, List.getElem?_cons_succ, List.getElem?_cons_zero]; exact rfl
      · rfl
      · kernel_rfl
      · kernel_rfl
      · kernel_rfl
      · exact fun _ _ _ _ h => h
      apply Exists.intro
      apply And.intro
      · apply yr_run; rfl; intro w' hw'; go_simp; (try with_reducible rfl)
      simp only [Act.put, List.setIfInBounds_toArray, List.set_cons_zero, List.set_cons_succ]
      apply wpR_next 1 (some 12)
      · simp only [List.getElem?_toArray, List.getElem?_cons_succ, List.getElem?_cons_zero]; exact rfl
      · rfl
      · kernel_rfl
      · kernel_rfl
      · kernel_rfl
      · exact fun _ _ _ _ h => h
      apply Exists.intro
      apply And.intro
      · apply yr_run; rfl; intro w' hw'; go_simp; (try with_reducible rfl)
      simp only [Act.put, List.setIfInBounds_toArray, List.set_cons_zero, List.set_cons_succ]
      apply wpR_next 2 (some 13)
      · simp only [List.getElem?_toArray, List.getElem?_cons_succ, List.getElem?_cons_zero]; exact rfl
      · rfl
      · kernel_rfl
      · kernel_rfl
      · kernel_rfl
      · exact fun _ _ _ _ h => h
      apply Exists.intro
      apply And.intro
      · apply yr_run; rfl; intro w' hw'; go_simp; (try with_reducible rfl)
      simp only [Act.put, List.setIfInBounds_toArray, List.set_cons_zero, List.set_cons_succ]
      apply wpR_next 3 (some 14)
      · simp only [List.getElem?_toArray, List.getElem?_cons_succ, List.getElem?_cons_zero]; exact rfl
      · rfl
      · kernel_rfl
      · kernel_rfl
      · kernel_rfl
      · exact fun _ _ _ _ h => h
      apply Exists.intro
      apply And.intro
      · apply yr_run; rfl; intro w' hw'; go_simp; (try with_reducible rfl)
      simp only [Act.put, List.setIfInBounds_toArray, List.set_cons_zero, List.set_cons_succ]
      apply wpR_next 4 (some 15)
      · simp only [List.getElem?_toArray, List.getElem?_cons_succ, List.getElem?_cons_zero]; exact rfl
      · rfl
      · kernel_rfl
      · kernel_rfl
      · kernel_rfl
      · exact fun _ _ _ _ h => h
      apply Exists.intro
      apply And.intro
      · apply yr_run; rfl; intro w' hw'; go_simp; (try with_reducible rfl)
      simp only [Act.put, List.setIfInBounds_toArray, List.set_cons_zero, List.set_cons_succ]
      apply wpR_next 5 (some 16)
      · simp only [List.getElem?_toArray, List.getElem?_cons_succ, List.getElem?_cons_zero]; exact rfl
      · rfl
      · kernel_rfl
      · kernel_rfl
      · kernel_rfl
      · exact fun _ _ _ _ h => h
      apply Exists.intro
      apply And.intro
      · apply yr_run; rfl; intro w' hw'; go_simp; (try with_reducible rfl)
      simp only [Act.put, List.setIfInBounds_toArray, List.set_cons_zero, List.set_cons_succ]
      apply wpR_next 6 (some 17)
      · simp only [List.getElem?_toArray, List.getElem?_cons_succ, List.getElem?_cons_zero]; exact rfl
      · rfl
      · kernel_rfl
      · kernel_rfl
      · kernel_rfl
      · exact fun _ _ _ _ h => h
      apply Exists.intro
      apply And.intro
      · apply yr_call; rfl; rotate_left; intro w' hw'; exact HI1.out w' hw'; intro w'; go_simp
      simp only [Act.put, List.setIfInBounds_toArray, List.set_cons_zero, List.set_cons_succ]
      apply wpR_next 7 (some 18)
      · simp only [List.getElem?_toArray, List.getElem?_cons_succ, List.getElem?_cons_zero]; exact rfl
      · rfl
      · kernel_rfl
      · kernel_rfl
      · kernel_rfl
      · exact fun _ _ _ _ h => h
      apply Exists.intro
      apply And.intro
      · apply yr_run; rfl; intro w' hw'; go_simp; (try with_reducible rfl)
      simp only [Act.put, List.setIfInBounds_toArray, List.set_cons_zero, List.set_cons_succ]
      apply wpR_next 8 (some 19)
      · simp only [List.getElem?_toArray, List.getElem?_cons_succ, List.getElem?_cons_zero]; exact rfl
      · rfl
      · kernel_rfl
      · kernel_rfl
      · kernel_rfl
      · exact fun _ _ _ _ h => h
      apply Exists.intro
      apply And.intro
      · apply yr_run; rfl; intro w' hw'; go_simp; (try with_reducible rfl)
      simp only [Act.put, List.setIfInBounds_toArray, List.set_cons_zero, List.set_cons_succ]
      apply wpR_next 9 (some 20)
      · simp only [List.getElem?_toArray, List.getElem?_cons_succ, List.getElem?_cons_zero]; exact rfl
      · rfl
      · kernel_rfl
      · kernel_rfl
      · kernel_rfl
      · exact fun _ _ _ _ h => h
      apply Exists.intro
      apply And.intro
      · apply yr_run; rfl; intro w' hw'; go_simp; (try with_reducible rfl)
      simp only [Act.put, List.setIfInBounds_toArray, List.set_cons_zero, List.set_cons_succ]
      apply wpR_next 10 (some 21)
      · simp only [List.getElem?_toArray, List.getElem?_cons_succ, List.getElem?_cons_zero]; exact rfl
      · rfl
      · kernel_rfl
      · kernel_rfl
      · kernel_rfl
      · exact fun _ _ _ _ h => h
      apply Exists.intro
      apply And.intro
      · apply yr_run; rfl; intro w' hw'; go_simp; (try with_reducible rfl)
      simp only [Act.put, List.setIfInBounds_toArray, List.set_cons_zero, List.set_cons_succ]
      apply wpR_next 11 (some 22)
      · simp only [List.getElem?_toArray, List.getElem?_cons_succ, List.getElem?_cons_zero]; exact rfl
      · rfl
      · kernel_rfl
      · kernel_rfl
      · kernel_rfl
      · exact fun _ _ _ _ h => h
      apply Exists.intro
      apply And.intro
      · apply yr_run; rfl; intro w' hw'; go_simp; (try with_reducible rfl)
      simp only [Act.put, List.setIfInBounds_toArray, List.set_cons_zero, List.set_cons_succ]
      apply wpR_next 12 (some 23)
      · simp only [List.getElem?_toArray, List.getElem?_cons_succ, List.getElem?_cons_zero]; exact rfl
      · rfl
      · kernel_rfl
      · kernel_rfl
      · kernel_rfl
      · exact fun _ _ _ _ h => h
      apply Exists.intro
      apply And.intro
      · apply yr_run; rfl; intro w' hw'; go_simp; (try with_reducible rfl)
      simp only [Act.put, List.setIfInBounds_toArray, List.set_cons_zero, List.set_cons_succ]
      apply wpR_next 13 (some 24)
      · simp only [List.getElem?_toArray, List.getElem?_cons_succ, List.getElem?_cons_zero]; exact rfl
      · rfl
      · kernel_rfl
      · kernel_rfl
      · kernel_rfl
      · exact fun _ _ _ _ h => h
      apply Exists.intro
      apply And.intro
      · apply yr_run; rfl; intro w' hw'; go_simp; (try with_reducible rfl)
      simp only [Act.put, List.setIfInBounds_toArray, List.set_cons_zero, List.set_cons_succ]
      apply wpR_next 14 (some 25)
      · simp only [List.getElem?_toArray, List.getElem?_cons_succ, List.getElem?_cons_zero]; exact rfl
      · rfl
      · kernel_rfl
      · kernel_rfl
      · kernel_rfl
      · exact fun _ _ _ _ h => h
      apply Exists.intro
      apply And.intro
      · apply yr_call; rfl; rotate_left; intro w' hw'; exact HI2.out w' hw'; intro w'; go_simp
      simp only [Act.put, List.setIfInBounds_toArray, List.set_cons_zero, List.set_cons_succ]
      apply wpR_next 15 (some 26)
      · simp only [List.getElem?_toArray, List.getElem?_cons_succ, List.getElem?_cons_zero]; exact rfl
      · rfl
      · kernel_rfl
      · kernel_rfl
      · kernel_rfl
      · exact fun _ _ _ _ h => h
      apply Exists.intro
      apply And.intro
      · apply yr_run; rfl; intro w' hw'; go_simp; (try with_reducible rfl)
      simp only [Act.put, List.setIfInBounds_toArray, List.set_cons_zero, List.set_cons_succ]
      apply wpR_next 16 (some 27)
      · simp only [List.getElem?_toArray, List.getElem?_cons_succ, List.getElem?_cons_zero]; exact rfl
      · rfl
      · kernel_rfl
      · kernel_rfl
      · kernel_rfl
      · exact fun _ _ _ _ h => h
      apply Exists.intro
      apply And.intro
      · apply yr_run; rfl; intro w' hw'; go_simp; (try with_reducible rfl)
      simp only [Act.put, List.setIfInBounds_toArray, List.set_cons_zero, List.set_cons_succ]
      apply wpR_next 17 (some 28)
      · simp only [List.getElem?_toArray, List.getElem?_cons_succ, List.getElem?_cons_zero]; exact rfl
      · rfl
      · kernel_rfl
      · kernel_rfl
      · kernel_rfl
      · exact fun _ _ _ _ h => h
      apply Exists.intro
      apply And.intro
      · apply yr_run; rfl; intro w' hw'; go_simp; (try with_reducible rfl)
      simp only [Act.put, List.setIfInBounds_toArray, List.set_cons_zero, List.set_cons_succ]
      apply wpR_next 18 (some 29)
      · simp only [List.getElem?_toArray, List.getElem?_cons_succ, List.getElem?_cons_zero]; exact rfl
      · rfl
      · kernel_rfl
      · kernel_rfl
      · kernel_rfl
      · exact fun _ _ _ _ h => h
      apply Exists.intro
      apply And.intro
      · apply yr_run; rfl; intro w' hw'; go_simp; (try with_reducible rfl)
      simp only [Act.put, List.setIfInBounds_toArray, List.set_cons_zero, List.set_cons_succ]
      apply wpR_next 19 (some 30)
      · simp only [List.getElem?_toArray, List.getElem?_cons_succ, List.getElem?_cons_zero]; exact rfl
      · rfl
      · kernel_rfl
      · kernel_rfl
      · kernel_rfl
      · exact fun _ _ _ _ h => h
      apply Exists.intro
      apply And.intro
      · apply yr_run; rfl; intro w' hw'; go_simp; (try with_reducible rfl)
      simp only [Act.put, List.setIfInBounds_toArray, List.set_cons_zero, List.set_cons_succ]
      apply wpR_next 20 (some 31)
      · simp only [List.getElem?_toArray, List.getElem?_cons_succ, List.getElem?_cons_zero]; exact rfl
      · rfl
      · kernel_rfl
      · kernel_rfl
      · kernel_rfl
      · exact fun _ _ _ _ h => h
      apply Exists.intro
      apply And.intro
      · apply yr_run; rfl; intro w' hw'; go_simp; (try with_reducible rfl)
      simp only [Act.put, List.setIfInBounds_toArray, List.set_cons_zero, List.set_cons_succ]
      apply wpR_next 21 (some 32)
      · simp only [List.getElem?_toArray, List.getElem?_cons_succ, List.getElem?_cons_zero]; exact rfl
      · rfl
      · kernel_rfl
      · kernel_rfl
      · kernel_rfl
      · exact fun _ _ _ _ h => h
      apply Exists.intro
      apply And.intro
      · apply yr_run; rfl; intro w' hw'; go_simp; (try with_reducible rfl)
      simp only [Act.put, List.setIfInBounds_toArray, List.set_cons_zero, List.set_cons_succ]
      apply wpR_next 22 (some 33)
      · simp only [List.getElem?_toArray, List.getElem?_cons_succ, List.getElem?_cons_zero]; exact rfl
      · rfl
      · kernel_rfl
      · kernel_rfl
      · kernel_rfl
      · exact fun _ _ _ _ h => h
      apply Exists.intro
      apply And.intro
      · apply yr_call; rfl; rotate_left; intro w' hw'; exact HI3.out w' hw'; intro w'; go_simp
      simp only [Act.put, List.setIfInBounds_toArray, List.set_cons_zero, List.set_cons_succ]
      apply wpR_next 23 (some 34)
      · simp only [List.getElem?_toArray, List.getElem?_cons_succ, List.getElem?_cons_zero]; exact rfl
      · rfl
      · kernel_rfl
      · kernel_rfl
      · kernel_rfl
      · exact fun _ _ _ _ h => h
      apply Exists.intro
      apply And.intro
      · apply yr_run; rfl; intro w' hw'; go_simp; (try with_reducible rfl)
      simp only [Act.put, List.setIfInBounds_toArray, List.set_cons_zero, List.set_cons_succ]
      apply wpR_next 24 (some 3)
      · simp only [List.getElem?_toArray, List.getElem?_cons_succ, List.getElem?_cons_zero]; exact rfl
      · rfl
      · kernel_rfl
      · kernel_rfl
      · kernel_rfl
      · exact fun _ _ _ _ h => h
      apply Exists.intro
      apply And.intro
      · apply yr_run; rfl; intro w' hw'; go_simp; (try with_reducible rfl)
      simp only [Act.put, List.setIfInBounds_toArray, List.set_cons_zero, List.set_cons_succ]
      refine wpR_done (by kernel_rfl) ?_ _
      intro w5 hw5
      have HB5 := Lib.hid (HB.out.drew.trans (hw5.mono (by exact HB.out.size)))
      have l3 := Ext.cell (Ext.trans (Below.refl _ wo).drew hw5) HP.out.2.2.2
      clear hw5 ld0 ld1 ld2 a1 a2 a3 a4 a5 HI1 HI2 HI3 HP HB
      by_cases hb0 : xb = []
      · obtain rfl : xl = 0 := by rw [hb0] at hlen; exact hlen.symm
        rw [if_pos hb0] at hns
        have hl3 := line3 xk xn xm
        rw [HW1.out, HW2.out, HW3.out] at hl3
        have HE : RowKit.Hid (T0 ++ i1_ ++ [32] ++ i2_ ++ [32] ++ i3_ ++ [10] = showB (L.take (j + 1))) := Lib.hid (by
          rw [HN.out, hns, hl3]
          simp [List.append_assoc])
        have a6 : ∀ W, (Op.stringOp .add t5 { data := #[10] }).run Tryz.prog W = .ok (.string (bS (showB (L.take (j + 1))))) W := fun W => by
          have := add_str (T0 ++ i1_ ++ [32] ++ i2_ ++ [32] ++ i3_) [10] _ HE.out (by rw [← HE.out, List.length_append]; have := HT5l.out; simp only [List.length_cons, List.length_nil]; omega) W
          rwa [HG8.out] at this
        clear hns hl3 hlen hcr hb8 hk hnn hm hs hr HN HE HT5l HG8 HW1 HW2 HW3
        obtain ⟨S1, gS1⟩ : ∃ z, bS (showB (L.take (j + 1))) = z := ⟨_, rfl⟩
        rw [gS1] at a6
        have HS1 : RowKit.Hid (S1 = bS (showB (L.take (j + 1)))) := Lib.hid gS1.symm
        clear gS1
        go_wp2
        go_roundw
        case rel => exact ⟨j + 1, S1, by omega, by go_num, rfl, HS1, HB5⟩
        case measure => simp [intOf]; omega
      · have hl0 : ¬ xl = 0 := fun e => hb0 (List.eq_nil_of_length_eq_zero (by omega))
        have hlp : (0 : Int) < (xl : Int) := by omega
        rw [if_neg hb0] at hns
        rw [hlen] at hns
        have HR5 := Lib.hid (HR.out.bl HB5.out)
        have h4 : I64 (xl : Int) := by unfold maxLen at hs; exact ⟨by omega, by omega⟩
        have h5 : I64 (crc xb : Int) := ⟨by omega, by omega⟩
        have HI4 := Lib.hid (fun w' (h : Kept Nil_ w5.drew w') => itoa_any xl h4 w' (HT.out.bl (HB5.out.drew.trans (h.below (by exact HB5.out.size) (fun _ _ q => q)))))
        have HI5 := Lib.hid (fun w' (h : Kept Nil_ w5.drew w') => itoa_any (crc xb) h5 w' (HT.out.bl (HB5.out.drew.trans (h.below (by exact HB5.out.size) (fun _ _ q => q)))))
        have HSm : RowKit.Hid (∀ w', Kept Nil_ w5.drew w' → Calls Tryz.prog 14 #[.slice xa xl xc] w' fun e w'' => e = .returned (.int .u32 (crc xb : Int)) ∧ Below w'.heap.size w' w'') := Lib.hid (fun w' h => (rsum_any xa xl xc xb w' (HR5.out.bl ((Below.refl _ w5).drew.trans (h.below (Nat.le_refl _) (fun _ _ q => q)))) hb8 hs).mono (fun e w'' q => ⟨q.1, q.2 ▸ Below.refl _ _⟩))
        have hl5 := line5 xk xn xm xl (crc xb)
        rw [HW1.out, HW2.out, HW3.out] at hl5
        have hl21 := Lib.itoa_length_le xl h4.1 h4.2
        have hl22 := Lib.itoa_length_le (crc xb) h5.1 h5.2
        obtain ⟨cr, gcr⟩ : ∃ z, crc xb = z := ⟨_, rfl⟩
        rw [gcr] at hns HI5 HSm hl5 hl22 hcr
        have hwr : IntKind.i64.wrap (cr : Int) = (cr : Int) := IntWalk.i64_in _ (by omega)
        obtain ⟨i4_, gi4⟩ : ∃ z, Lib.itoa xl = z := ⟨_, rfl⟩
        obtain ⟨i5_, gi5⟩ : ∃ z, Lib.itoa cr = z := ⟨_, rfl⟩
        rw [gi4] at HI4 hl5 hl21
        rw [gi5] at HI5 hl5 hl22
        obtain ⟨U, gU⟩ : ∃ z, T0 ++ i1_ ++ [32] ++ i2_ ++ [32] ++ i3_ = z := ⟨_, rfl⟩
        have hU : U.length ≤ 12000 := gU ▸ HT5l.out
        have hg8 := HG8.out
        rw [gU] at hg8
        have HE : RowKit.Hid (U ++ [32] ++ i4_ ++ [32] ++ i5_ ++ [10] = showB (L.take (j + 1))) := Lib.hid (by
          rw [HN.out, hns, hl5, ← gU]
          simp [List.append_assoc])
        have a1 : ∀ W, (Op.stringOp .add (bS U) { data := #[32] }).run Tryz.prog W = .ok (.string (bS (U ++ [32]))) W := fun W => add_str _ [32] _ rfl (by simp only [List.length_append, List.length_cons, List.length_nil]; omega) W
        have a2 : ∀ W, (Op.stringOp .add (bS (U ++ [32])) (bS i4_)).run Tryz.prog W = .ok (.string (bS (U ++ [32] ++ i4_))) W := fun W => add_str _ _ _ rfl (by simp only [List.length_append, List.length_cons, List.length_nil]; omega) W
        have a3 : ∀ W, (Op.stringOp .add (bS (U ++ [32] ++ i4_)) { data := #[32] }).run Tryz.prog W = .ok (.string (bS (U ++ [32] ++ i4_ ++ [32]))) W := fun W => add_str _ [32] _ rfl (by simp only [List.length_append, List.length_cons, List.length_nil]; omega) W
        have a4 : ∀ W, (Op.stringOp .add (bS (U ++ [32] ++ i4_ ++ [32])) (bS i5_)).run Tryz.prog W = .ok (.string (bS (U ++ [32] ++ i4_ ++ [32] ++ i5_))) W := fun W => add_str _ _ _ rfl (by simp only [List.length_append, List.length_cons, List.length_nil]; omega) W
        have a6 : ∀ W, (Op.stringOp .add (bS (U ++ [32] ++ i4_ ++ [32] ++ i5_)) { data := #[10] }).run Tryz.prog W = .ok (.string (bS (showB (L.take (j + 1))))) W := fun W =>
          add_str _ [10] _ HE.out (by rw [← HE.out]; simp only [List.length_append, List.length_cons, List.length_nil]; omega) W
        rw [hg8] at a1
        obtain ⟨s4_, g1⟩ : ∃ z, bS i4_ = z := ⟨_, rfl⟩
        obtain ⟨s5_, g2⟩ : ∃ z, bS i5_ = z := ⟨_, rfl⟩
        obtain ⟨t6, g3⟩ : ∃ z, bS (U ++ [32]) = z := ⟨_, rfl⟩
        obtain ⟨t7, g4⟩ : ∃ z, bS (U ++ [32] ++ i4_) = z := ⟨_, rfl⟩
        obtain ⟨t8, g5⟩ : ∃ z, bS (U ++ [32] ++ i4_ ++ [32]) = z := ⟨_, rfl⟩
        obtain ⟨t9, g6⟩ : ∃ z, bS (U ++ [32] ++ i4_ ++ [32] ++ i5_) = z := ⟨_, rfl⟩
        obtain ⟨S1, gS1⟩ : ∃ z, bS (showB (L.take (j + 1))) = z := ⟨_, rfl⟩
        rw [g3] at a1
        rw [g3, g1, g4] at a2
        rw [g4, g5] at a3
        rw [g5, g2, g6] at a4
        rw [g6, gS1] at a6
        rw [g1] at HI4
        rw [g2] at HI5
        have HS1 : RowKit.Hid (S1 = bS (showB (L.take (j + 1)))) := Lib.hid gS1.symm
        clear gS1 g1 g2 g3 g4 g5 g6 gi4 gi5 gcr gU hg8 HE HN hns hl5 hl21 hl22 hcr hb8 hk hnn hm hs hr HT5l HG8 HW1 HW2 HW3 hlen h4 h5 HR HR5 hU
        go_upto_region 7 with fail
        have ld3 : ∀ w', Kept Nil_ w5.drew w' → w'.cell? ⟨bb, off + j * 4 + 3, none⟩ = some (.slice xa xl xc) := fun w' h => h.nil_cell l3
        clear l3
        refine wp_region_reg (Nil_) (by kernel_rfl) ?_
        apply wpR_next 0 (some 42)
        · simp only [List.getElem?_toArray, List.getElem?_cons_succ, List.getElem?_cons_zero]; exact rfl
        · rfl
        · kernel_rfl
        · kernel_rfl
        · kernel_rfl
        · exact fun _ _ _ _ h => h
        apply Exists.intro
        apply And.intro
        · apply yr_run; rfl; intro w' hw'; go_simp; (try with_reducible rfl)
        simp only [Act.put, List.setIfInBounds_toArray, List.set_cons_zero, List.set_cons_succ]
        apply wpR_next 1 (some 43)
        · simp only [List.getElem?_toArray, List.getElem?_cons_succ, List.getElem?_cons_zero]; exact rfl
        · rfl
        · kernel_rfl
        · kernel_rfl
        · kernel_rfl
        · exact fun _ _ _ _ h => h
        apply Exists.intro
        apply And.intro
        · apply yr_run; rfl; intro w' hw'; go_simp; (try with_reducible rfl)
        simp only [Act.put, List.setIfInBounds_toArray, List.set_cons_zero, List.set_cons_succ]
        apply wpR_next 2 (some 44)
        · simp only [List.getElem?_toArray, List.getElem?_cons_succ, List.getElem?_cons_zero]; exact rfl
        · rfl
        · kernel_rfl
        · kernel_rfl
        · kernel_rfl
        · exact fun _ _ _ _ h => h
        apply Exists.intro
        apply And.intro
        · apply yr_run; rfl; intro w' hw'; go_simp; (try with_reducible rfl)
        simp only [Act.put, List.setIfInBounds_toArray, List.set_cons_zero, List.set_cons_succ]
        apply wpR_next 3 (some 45)
        · simp only [List.getElem?_toArray, List.getElem?_cons_succ, List.getElem?_cons_zero]; exact rfl
        · rfl
        · kernel_rfl
        · kernel_rfl
        · kernel_rfl
        · exact fun _ _ _ _ h => h
        apply Exists.intro
        apply And.intro
        · apply yr_run; rfl; intro w' hw'; go_simp; (try with_reducible rfl)
        simp only [Act.put, List.setIfInBounds_toArray, List.set_cons_zero, List.set_cons_succ]
        apply wpR_next 4 (some 46)
        · simp only [List.getElem?_toArray, List.getElem?_cons_succ, List.getElem?_cons_zero]; exact rfl
        · rfl
        · kernel_rfl
        · kernel_rfl
        · kernel_rfl
        · exact fun _ _ _ _ h => h
        apply Exists.intro
        apply And.intro
        · apply yr_run; rfl; intro w' hw'; go_simp; (try with_reducible rfl)
        simp only [Act.put, List.setIfInBounds_toArray, List.set_cons_zero, List.set_cons_succ]
        apply wpR_next 5 (some 47)
        · simp only [List.getElem?_toArray, List.getElem?_cons_succ, List.getElem?_cons_zero]; exact rfl
        · rfl
        · kernel_rfl
        · kernel_rfl
        · kernel_rfl
        · exact fun _ _ _ _ h => h
        apply Exists.intro
        apply And.intro
        · apply yr_run; rfl; intro w' hw'; go_simp; (try with_reducible rfl)
        simp only [Act.put, List.setIfInBounds_toArray, List.set_cons_zero, List.set_cons_succ]
        apply wpR_next 6 (some 48)
        · simp only [List.getElem?_toArray, List.getElem?_cons_succ, List.getElem?_cons_zero]; exact rfl
        · rfl
        · kernel_rfl
        · kernel_rfl
        · kernel_rfl
        · exact fun _ _ _ _ h => h
        apply Exists.intro
        apply And.intro
        · apply yr_run; rfl; intro w' hw'; go_simp; (try with_reducible rfl)
        simp only [Act.put, List.setIfInBounds_toArray, List.set_cons_zero, List.set_cons_succ]
        apply wpR_next 7 (some 49)
        · simp only [List.getElem?_toArray, List.getElem?_cons_succ, List.getElem?_cons_zero]; exact rfl
        · rfl
        · kernel_rfl
        · kernel_rfl
        · kernel_rfl
        · exact fun _ _ _ _ h => h
        apply Exists.intro
        apply And.intro
        · apply yr_run; rfl; intro w' hw'; go_simp; (try with_reducible rfl)
        simp only [Act.put, List.setIfInBounds_toArray, List.set_cons_zero, List.set_cons_succ]
        apply wpR_next 8 (some 50)
        · simp only [List.getElem?_toArray, List.getElem?_cons_succ, List.getElem?_cons_zero]; exact rfl
        · rfl
        · kernel_rfl
        · kernel_rfl
        · kernel_rfl
        · exact fun _ _ _ _ h => h
        apply Exists.intro
        apply And.intro
        · apply yr_call; rfl; rotate_left; intro w' hw'; exact HI4.out w' hw'; intro w'; go_simp
        simp only [Act.put, List.setIfInBounds_toArray, List.set_cons_zero, List.set_cons_succ]
        apply wpR_next 9 (some 51)
        · simp only [List.getElem?_toArray, List.getElem?_cons_succ, List.getElem?_cons_zero]; exact rfl
        · rfl
        · kernel_rfl
        · kernel_rfl
        · kernel_rfl
        · exact fun _ _ _ _ h => h
        apply Exists.intro
        apply And.intro
        · apply yr_run; rfl; intro w' hw'; go_simp; (try with_reducible rfl)
        simp only [Act.put, List.setIfInBounds_toArray, List.set_cons_zero, List.set_cons_succ]
        apply wpR_next 10 (some 52)
        · simp only [List.getElem?_toArray, List.getElem?_cons_succ, List.getElem?_cons_zero]; exact rfl
        · rfl
        · kernel_rfl
        · kernel_rfl
        · kernel_rfl
        · exact fun _ _ _ _ h => h
        apply Exists.intro
        apply And.intro
        · apply yr_run; rfl; intro w' hw'; go_simp; (try with_reducible rfl)
        simp only [Act.put, List.setIfInBounds_toArray, List.set_cons_zero, List.set_cons_succ]
        apply wpR_next 11 (some 53)
        · simp only [List.getElem?_toArray, List.getElem?_cons_succ, List.getElem?_cons_zero]; exact rfl
        · rfl
        · kernel_rfl
        · kernel_rfl
        · kernel_rfl
        · exact fun _ _ _ _ h => h
        apply Exists.intro
        apply And.intro
        · apply yr_run; rfl; intro w' hw'; go_simp; (try with_reducible rfl)
        simp only [Act.put, List.setIfInBounds_toArray, List.set_cons_zero, List.set_cons_succ]
        apply wpR_next 12 (some 54)
        · simp only [List.getElem?_toArray, List.getElem?_cons_succ, List.getElem?_cons_zero]; exact rfl
        · rfl
        · kernel_rfl
        · kernel_rfl
        · kernel_rfl
        · exact fun _ _ _ _ h => h
        apply Exists.intro
        apply And.intro
        · apply yr_run; rfl; intro w' hw'; go_simp; (try with_reducible rfl)
        simp only [Act.put, List.setIfInBounds_toArray, List.set_cons_zero, List.set_cons_succ]
        apply wpR_next 13 (some 55)
        · simp only [List.getElem?_toArray, List.getElem?_cons_succ, List.getElem?_cons_zero]; exact rfl
        · rfl
        · kernel_rfl
        · kernel_rfl
        · kernel_rfl
        · exact fun _ _ _ _ h => h
        apply Exists.intro
        apply And.intro
        · apply yr_run; rfl; intro w' hw'; go_simp; (try with_reducible rfl)
        simp only [Act.put, List.setIfInBounds_toArray, List.set_cons_zero, List.set_cons_succ]
        apply wpR_next 14 (some 56)
        · simp only [List.getElem?_toArray, List.getElem?_cons_succ, List.getElem?_cons_zero]; exact rfl
        · rfl
        · kernel_rfl
        · kernel_rfl
        · kernel_rfl
        · exact fun _ _ _ _ h => h
        apply Exists.intro
        apply And.intro
        · apply yr_run; rfl; intro w' hw'; go_simp; (try with_reducible rfl)
        simp only [Act.put, List.setIfInBounds_toArray, List.set_cons_zero, List.set_cons_succ]
        apply wpR_next 15 (some 57)
        · simp only [List.getElem?_toArray, List.getElem?_cons_succ, List.getElem?_cons_zero]; exact rfl
        · rfl
        · kernel_rfl
        · kernel_rfl
        · kernel_rfl
        · exact fun _ _ _ _ h => h
        apply Exists.intro
        apply And.intro
        · apply yr_run; rfl; intro w' hw'; go_simp; (try with_reducible rfl)
        simp only [Act.put, List.setIfInBounds_toArray, List.set_cons_zero, List.set_cons_succ]
        apply wpR_next 16 (some 58)
        · simp only [List.getElem?_toArray, List.getElem?_cons_succ, List.getElem?_cons_zero]; exact rfl
        · rfl
        · kernel_rfl
        · kernel_rfl
        · kernel_rfl
        · exact fun _ _ _ _ h => h
        apply Exists.intro
        apply And.intro
        · apply yr_call; rfl; rotate_left; intro w' hw'; exact HSm.out w' hw'; intro w'; go_simp
        simp only [Act.put, List.setIfInBounds_toArray, List.set_cons_zero, List.set_cons_succ]
        apply wpR_next 17 (some 59)
        · simp only [List.getElem?_toArray, List.getElem?_cons_succ, List.getElem?_cons_zero]; exact rfl
        · rfl
        · kernel_rfl
        · kernel_rfl
        · kernel_rfl
        · exact fun _ _ _ _ h => h
        apply Exists.intro
        apply And.intro
        · apply yr_run; rfl; intro w' hw'; go_simp; (try with_reducible rfl)
        simp only [Act.put, List.setIfInBounds_toArray, List.set_cons_zero, List.set_cons_succ]
        apply wpR_next 18 (some 60)
        · simp only [List.getElem?_toArray, List.getElem?_cons_succ, List.getElem?_cons_zero]; exact rfl
        · rfl
        · kernel_rfl
        · kernel_rfl
        · kernel_rfl
        · exact fun _ _ _ _ h => h
        apply Exists.intro
        apply And.intro
        · apply yr_call; rfl; rotate_left; intro w' hw'; exact HI5.out w' hw'; intro w'; go_simp
        simp only [Act.put, List.setIfInBounds_toArray, List.set_cons_zero, List.set_cons_succ]
        apply wpR_next 19 (some 61)
        · simp only [List.getElem?_toArray, List.getElem?_cons_succ, List.getElem?_cons_zero]; exact rfl
        · rfl
        · kernel_rfl
        · kernel_rfl
        · kernel_rfl
        · exact fun _ _ _ _ h => h
        apply Exists.intro
        apply And.intro
        · apply yr_run; rfl; intro w' hw'; go_simp; (try with_reducible rfl)
        simp only [Act.put, List.setIfInBounds_toArray, List.set_cons_zero, List.set_cons_succ]
        apply wpR_next 20 (some 3)
        · simp only [List.getElem?_toArray, List.getElem?_cons_succ, List.getElem?_cons_zero]; exact rfl
        · rfl
        · kernel_rfl
        · kernel_rfl
        · kernel_rfl
        · exact fun _ _ _ _ h => h
        apply Exists.intro
        apply And.intro
        · apply yr_run; rfl; intro w' hw'; go_simp; (try with_reducible rfl)
        simp only [Act.put, List.setIfInBounds_toArray, List.set_cons_zero, List.set_cons_succ]
        refine wpR_done (by kernel_rfl) ?_ _
        intro w7 hw7
        have HB7 := Lib.hid (HB5.out.drew.trans (hw7.mono (by exact HB5.out.size)))
        clear hw7 ld3 a1 a2 a3 a4 HI4 HI5 HSm HB5
        go_wp2
        go_roundw
        case rel => exact ⟨j + 1, S1, by omega, by go_num, rfl, HS1, HB7⟩
        case measure => simp [intOf]; omega
    · obtain rfl : n = j := by omega
      have HE : RowKit.Hid (S = bS (showB L)) := Lib.hid (by
        have := HS.out
        rwa [List.take_of_length_le (by have := Hl.out; omega)] at this)
      clear HS
      go_wp2
      go_ret
      exact ⟨congrArg (fun z => Ending.returned (.string z)) HE.out, HB.out⟩
end Go.Proofs.YtinhenmafjoaoaaGreatDoor
