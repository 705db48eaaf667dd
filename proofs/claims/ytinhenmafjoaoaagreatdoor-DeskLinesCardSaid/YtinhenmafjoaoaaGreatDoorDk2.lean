/- Show: lines of answers. -/
import Derived.Test.YtinhenmafjoaoaaGreatDoorDk1
namespace Go.Proofs.YtinhenmafjoaoaaGreatDoor
open Go.RowKit
set_option linter.unusedSimpArgs false
set_option linter.unusedVariables false

/-- A builder that holds these bytes. -/
def Bf (lo g : Nat) (l : List UInt8) (W : World) : Prop := Lib.IsBuilderF 35 5 lo g (Lib.byteCells l) W
theorem baf_below {T e : TypeId} {B b : Nat} {p : Value} {bs : List Value} {W W' : World} (h : Lib.BuilderAtF T e B b p bs W) (hb : Below W.heap.size W W') : Lib.BuilderAtF T e B b p bs W' := by
  have hlt := h.lt
  obtain ⟨hB, v, hv, hown, hne⟩ := h
  exact ⟨hB, v, (hb.block b hlt).trans hv, hown.kept (row := none) ⟨hb.os, hb.tape, hb.output, hb.size, fun k hk _ => hb.block k hk⟩ (Classical.em _), hne⟩
theorem Bf.below {lo g : Nat} {l : List UInt8} {W W' : World} (h : Bf lo g l W) (hb : Below W.heap.size W W') : Bf lo g l W' :=
  h.elim (fun x => .inl (baf_below x hb)) (fun x => .inr (baf_below x hb))
theorem Bf.new (w : World) : Bf w.heap.size w.heap.size [] (w.alloc (.cells #[.pointer none, .slice none 0 0] 35)) := Lib.IsBuilderF.of (Lib.fresh_isBuilder 35 5 w)
theorem Bf.of {lo g : Nat} {l l' : List UInt8} {t : ByteArray} {W : World} (h : Lib.BuilderAtF 35 5 lo g (.pointer (some ⟨g, 0, none⟩)) (Lib.byteCells l ++ Lib.strCells t) W) (e : l ++ t.data.toList = l') : Bf lo g l' W := by
  rw [Lib.strCells_eq, ← Lib.byteCells_append, e] at h
  exact .inr h
theorem okb {e : TypeId} {b g : Nat} {T : TypeId} {cs : List Value} {W W' : World} (h : Lib.OthersKept e (some b) W W') (hw : Whole W g T cs) (hT : T ≠ e) (hne : g ≠ b) : W'.heap[g]? = W.heap[g]? := by
  have h1 : W.heap[g]? = some (.cells cs.toArray T (0, 0)) := hw
  exact (h g _ h1 (fun q => hne (Option.some.inj q)) (fun c fz q => by injection q with q1 q2; exact hT q2)).trans h1.symm
set_option maxRecDepth 100000 in
set_option maxHeartbeats 4000000 in
theorem show_any (A : Option Addr) (n c : Nat) (L : List AnT) (w : World) (h : RdS w w.heap.size 4 A n c (rowsV anC L)) (hA : ∀ x ∈ L, AnOk w x) (hn : n ≤ 100) (ht : Tb w) :
    Calls Tryz.prog 6 #[.slice A n c] w fun e w' => e = .returned (.string (bS (showB L))) ∧ Below w.heap.size w w' := by
  have Hl := Lib.hid (h.rlen anC_len (by decide))
  have H := Lib.hid h
  have HA := Lib.hid hA
  have HT := Lib.hid ht
  have HLs := Lib.hid (fun (j : Nat) => showB_len (w := w) (X := L.take j) (fun x hx => hA x (List.mem_of_mem_take hx)))
  clear h hA ht
  go_enter Tryz.func6, Tryz.ntmps6
  go_upto_region 3 with fail
  have HB := Lib.hid (below1 w (.cells #[.pointer none, .slice none 0 0] 35))
  have HBd := Lib.hid (Bf.new w)
  have Hw0 : RowKit.Hid (w.heap.size < (w.alloc (.cells #[.pointer none, .slice none 0 0] 35)).heap.size) := Lib.hid (by simp)
  obtain ⟨W0, gW0⟩ : ∃ z, w.alloc (.cells #[.pointer none, .slice none 0 0] 35) = z := ⟨_, rfl⟩
  obtain ⟨b0, gb0⟩ : ∃ z, w.heap.size = z := ⟨_, rfl⟩
  obtain ⟨w0, gw0⟩ : ∃ z, w.heap.size = z := ⟨_, rfl⟩
  have HB1 : RowKit.Hid (Below w0 w W0) := Lib.hid (by rw [← gw0, ← gW0]; exact HB.out)
  have HBd1 : RowKit.Hid (Bf w0 b0 [] W0) := Lib.hid (by rw [← gw0, ← gW0] at *; rw [← gb0]; exact HBd.out)
  have Hw1 : RowKit.Hid (b0 < W0.heap.size) := Lib.hid (by rw [← gb0, ← gW0]; exact Hw0.out)
  have Hbw : RowKit.Hid (w0 = w.heap.size ∧ b0 = w.heap.size) := Lib.hid ⟨gw0.symm, gb0.symm⟩
  rw [gW0, gb0]
  clear gW0 gb0 gw0 HB HBd Hw0
  go_loopw [8] (fun vi wr => ∃ (j : Nat), j ≤ n ∧ vi = .int .i64 (j : Int) ∧ RowKit.Hid (Below w0 w wr) ∧ RowKit.Hid (Bf w0 b0 (showB (L.take j)) wr) ∧ RowKit.Hid (b0 < wr.heap.size)) (fun vi _ => n - (intOf vi).toNat)
  case atStart => exact ⟨0, Nat.zero_le _, rfl, HB1, HBd1, Hw1⟩
  case round =>
    clear HB1 HBd1 Hw1
    obtain ⟨j, hj, rfl, HB, HBd, Hw⟩ := hrel
    obtain ⟨wo, gwo⟩ : ∃ z, wr = z := ⟨_, rfl⟩
    rw [gwo] at HB HBd Hw ⊢
    clear gwo
    by_cases hjn : j < n
    · have hji : (j : Int) < (n : Int) := by omega
      obtain ⟨x, hx⟩ : ∃ x, L[j]? = some x := ⟨_, List.getElem?_eq_getElem (by have := Hl.out; omega)⟩
      obtain ⟨bb, off, rfl, hbB, hpl⟩ := H.out.place anC_len (by decide) (by omega)
      have hbl : Below w.heap.size w wo := by have := HB.out; rwa [Hbw.out.1] at this
      have hp : ∀ i u, (anC x)[i]? = some u → wo.cell? ((⟨bb, off + j * 4, none⟩ : Addr).add i) = some u := fun i u hu => (hbl.cell (by rw [add_block]; exact hbB)).trans (hpl j x hx i u hu)
      have hok := HA.out x (List.mem_of_getElem? hx)
      have HN : RowKit.Hid (showB (L.take (j + 1)) = showB (L.take j) ++ lineB (nsA x)) := Lib.hid (showB_next hx)
      have HLe : RowKit.Hid ((showB (L.take j)).length ≤ 11100 ∧ (lineB (nsA x)).length ≤ 111) := Lib.hid ⟨by have := HLs.out j; rw [List.length_take] at this; omega, hok.line⟩
      obtain ⟨S0, gS0⟩ : ∃ z, showB (L.take j) = z := ⟨_, rfl⟩
      rw [gS0] at HN HLe HBd
      have hlen := hok.len
      have hns : nsA x = if x.b = [] then [x.k, x.n, x.m] else [x.k, x.n, x.m, (x.b.length : Int), (crc x.b : Int)] := rfl
      have h64 := nsA_64 hok
      have hcr := crc_lt hok.b
      obtain ⟨xk, xn, xm, xa, xl, xc, xb⟩ := x
      obtain ⟨hr, hb8, hk, hnn, hm, hs⟩ := hok
      have l0 := hp 0 _ rfl
      have l1 := hp 1 _ rfl
      have l2 := hp 2 _ rfl
      have l3 := hp 3 _ rfl
      simp only [Addr.add_lit, Nat.add_zero, Nat.zero_add] at l0 l1 l2 l3
      dsimp only at hr hb8 hk hnn hm hs hlen hns hcr
      clear hp hx hpl hbB gS0
      go_upto_region 5 with fail
      have HA1 : RowKit.Hid (Whole (wo.alloc (.cells #[.int .i64 xk, .int .i64 xn, .int .i64 xm, .slice xa xl xc] 27)) wo.heap.size 27 [.int .i64 xk, .int .i64 xn, .int .i64 xm, .slice xa xl xc]) := Lib.hid (Whole.new_ _ _ _)
      have HBd1 := Lib.hid (Bf.below HBd.out (below1 wo (.cells #[.int .i64 xk, .int .i64 xn, .int .i64 xm, .slice xa xl xc] 27)))
      have HB1 := Lib.hid (HB.out.alloc (by have := HB.out.size; have := Hbw.out.1; omega) (.cells #[.int .i64 xk, .int .i64 xn, .int .i64 xm, .slice xa xl xc] 27))
      have HNb : RowKit.Hid (wo.heap.size ≠ b0) := Lib.hid (by have := Hw.out; omega)
      have HT1 : RowKit.Hid (Tb (wo.alloc (.cells #[.int .i64 xk, .int .i64 xn, .int .i64 xm, .slice xa xl xc] 27))) := Lib.hid (HT.out.bl (hbl.trans ((below1 wo _).mono hbl.size)))
      have HRd : RowKit.Hid (RdS (wo.alloc (.cells #[.int .i64 xk, .int .i64 xn, .int .i64 xm, .slice xa xl xc] 27)) (wo.alloc (.cells #[.int .i64 xk, .int .i64 xn, .int .i64 xm, .slice xa xl xc] 27)).heap.size 1 xa xl xc (rowsV f8 xb)) := Lib.hid (hr.bl (hbl.trans ((below1 wo _).mono hbl.size)))
      have Hw2 : RowKit.Hid (b0 < (wo.alloc (.cells #[.int .i64 xk, .int .i64 xn, .int .i64 xm, .slice xa xl xc] 27)).heap.size) := Lib.hid (by simp; have := Hw.out; omega)
      have HNw : RowKit.Hid (w0 ≤ wo.heap.size) := Lib.hid (by have := HB.out.size; have := Hbw.out.1; omega)
      obtain ⟨W1, gW1⟩ : ∃ z, wo.alloc (.cells #[.int .i64 xk, .int .i64 xn, .int .i64 xm, .slice xa xl xc] 27) = z := ⟨_, rfl⟩
      obtain ⟨b1, gb1⟩ : ∃ z, wo.heap.size = z := ⟨_, rfl⟩
      rw [gW1] at HA1 HBd1 HB1 HT1 HRd Hw2 ⊢
      rw [gb1] at HA1 HNb HNw ⊢
      have HRw := Lib.hid hr
      clear gW1 gb1 l0 l1 l2 l3 hbl HB HBd Hw hr
      have HBd := HBd1
      clear HBd1
      have d0 := HA1.out.cell (i := 0) rfl
      have d1 := HA1.out.cell (i := 1) rfl
      have d2 := HA1.out.cell (i := 2) rfl
      have d3 := HA1.out.cell (i := 3) rfl
      by_cases hb0 : xb = []
      · obtain rfl : xl = 0 := by rw [hb0] at hlen; exact hlen.symm
        rw [if_pos hb0] at hns
        rw [hns] at HN HLe h64
        have HLn : RowKit.Hid (∀ W, Below W1.heap.size W1 W → Calls Tryz.prog 10 #[.slice (some ⟨W.heap.size, 0, none⟩) 3 3] (W.alloc (.cells #[.int .i64 xk, .int .i64 xn, .int .i64 xm] 3)) fun e w' => e = .returned (.string (bS (lineB [xk, xn, xm]))) ∧ Below W1.heap.size W1 w') := Lib.hid (fun W hW => by
          have h2 := (hW.trans ((below1 W (.cells #[.int .i64 xk, .int .i64 xn, .int .i64 xm] 3)).mono hW.size))
          refine (line_any (some ⟨W.heap.size, 0, none⟩) 3 3 [xk, xn, xm] (W.alloc (.cells #[.int .i64 xk, .int .i64 xn, .int .i64 xm] 3)) (RdS.of_whole (Whole.new_ W 3 [.int .i64 xk, .int .i64 xn, .int .i64 xm]) rfl) h64 (by decide) (by decide) (HT1.out.bl h2)).mono ?_
          rintro e w' ⟨rfl, hb⟩
          exact ⟨rfl, h2.trans (hb.mono h2.size)⟩)
        have HEq : RowKit.Hid (S0 ++ (bS (lineB [xk, xn, xm])).data.toList = showB (L.take (j + 1))) := Lib.hid (by rw [bS_list, HN.out])
        have hts : (bS (lineB [xk, xn, xm])).size ≤ 111 := by rw [bS_size]; exact HLe.out.2
        have HLe1 := Lib.hid HLe.out.1
        obtain ⟨t, gt⟩ : ∃ z, bS (lineB [xk, xn, xm]) = z := ⟨_, rfl⟩
        rw [gt] at HLn HEq hts
        have HWr : RowKit.Hid (∀ W, Below W1.heap.size W1 W → Calls Tryz.prog 9 #[.pointer (some ⟨b0, 0, none⟩), .string t] W fun e w' => (∃ v, e = .returned v) ∧ Bf w0 b0 (showB (L.take (j + 1))) w' ∧ Below w0 w w' ∧ b0 < w'.heap.size) := Lib.hid (fun W hW => by
          refine (Tryz.Builder_WriteString_k w0 b0 _ t W (Bf.below HBd.out hW) (by rw [Lib.byteCells_length]; have := HLe1.out; omega) (by have := HB1.out.size; have := hW.size; have := Hbw.out.1; have := Hw2.out; omega)).mono ?_
          rintro e w9 ⟨rfl, hbe, hb9, hk9⟩
          exact ⟨⟨_, rfl⟩, Bf.of hbe HEq.out, HB1.out.trans ((hW.mono (by have := Hw2.out; have := Hbw.out; omega)).trans hb9), by have := hb9.size; have := hW.size; have := Hw2.out; omega⟩)
        clear gt hts HLe HLe1 HN HEq h64 hns hlen hcr hb8 hk hnn hm hs HRd
        go_wp2_with (first
          | (go_at_call 10
             refine (HLn.out _ (Below.refl _ _)).mono ?_
             rintro e w2 ⟨rfl, hb2⟩
             have HB2 := Lib.hid hb2
             clear hb2 d0 d1 d2 d3)
          | (go_at_call 9
             refine (HWr.out _ HB2.out).mono ?_
             rintro e w3 ⟨⟨v3, rfl⟩, hbf, hb3, hs3⟩
             have HBf := Lib.hid hbf
             have HB3 := Lib.hid hb3
             have Hs3 := Lib.hid hs3
             clear hbf hb3 hs3))
        go_roundw
        case rel => exact ⟨j + 1, by omega, by go_num, HB3, HBf, Hs3⟩
        case measure => simp [intOf]; omega
      · have hl0 : ¬ xl = 0 := fun e => hb0 (List.eq_nil_of_length_eq_zero (by omega))
        have hz : ((xl : Int) == 0) = false := by
          cases hq : ((xl : Int) == 0) with
          | false => rfl
          | true => simp at hq; omega
        rw [if_neg hb0] at hns
        rw [hlen] at hns
        rw [hns] at HN HLe h64
        have hrd := HRd.out
        have HSum : RowKit.Hid (∀ w', Kept (fun i => w0 ≤ i ∧ i ≠ b1) W1.drew w' → Calls Tryz.prog 11 #[.slice xa xl xc] w' fun e w'' => e = .returned (.int .u32 (crc xb : Int)) ∧ Below w'.heap.size w' w'') := Lib.hid (fun w' hk => by
          have h1 : Below w0 W1.drew w' := hk.below (by show w0 ≤ W1.heap.size; have := HB1.out.size; have := Hbw.out.1; omega) (fun i hi q => absurd q.1 (by omega))
          have h2 : Below w.heap.size w w' := by
            have h3 := HB1.out.drew.trans h1
            rwa [Hbw.out.1] at h3
          exact (sum_any xa xl xc xb w' (HRw.out.bl h2) hb8 hs).mono (fun e w'' q => ⟨q.1, q.2 ▸ Below.refl _ _⟩))
        obtain ⟨cr, gcr⟩ : ∃ z, crc xb = z := ⟨_, rfl⟩
        rw [gcr] at hns HN HLe h64 HSum hcr
        have hwr : IntKind.i64.wrap (cr : Int) = (cr : Int) := IntWalk.i64_in _ (by omega)
        have HLn : RowKit.Hid (∀ W g, Below W1.heap.size W1 W → RdS W W.heap.size 1 (some ⟨g, 0, none⟩) 5 5 (rowsV i1 [xk, xn, xm, xl, cr]) → Calls Tryz.prog 10 #[.slice (some ⟨g, 0, none⟩) 5 5] W fun e w' => e = .returned (.string (bS (lineB [xk, xn, xm, xl, cr]))) ∧ Below W.heap.size W w') := Lib.hid (fun W g hW hr => line_any (some ⟨g, 0, none⟩) 5 5 [xk, xn, xm, xl, cr] W hr h64 (by decide) (by decide) (HT1.out.bl hW))
        have HEq : RowKit.Hid (S0 ++ (bS (lineB [xk, xn, xm, xl, cr])).data.toList = showB (L.take (j + 1))) := Lib.hid (by rw [bS_list, HN.out])
        have hts : (bS (lineB [xk, xn, xm, xl, cr])).size ≤ 111 := by rw [bS_size]; exact HLe.out.2
        have HLe : RowKit.Hid (S0.length ≤ 11100 ∧ (bS (lineB [xk, xn, xm, xl, cr])).size ≤ 111) := Lib.hid ⟨HLe.out.1, hts⟩
        obtain ⟨t, gt⟩ : ∃ z, bS (lineB [xk, xn, xm, xl, cr]) = z := ⟨_, rfl⟩
        rw [gt] at HLn HEq HLe
        clear gt hts HN h64 hns hlen hb8 hk hnn hm hs HRd HRw hrd gcr
        go_upto_region 7 with fail
        have ld0 : ∀ w', Kept (fun i => w0 ≤ i ∧ i ≠ b1) W1.drew w' → w'.cell? ⟨b1, 0, none⟩ = some (.int .i64 xk) := fun w' h => (h.whole HA1.out.dr (fun q => q.2 rfl)).cell (i := 0) rfl
        have ld1 : ∀ w', Kept (fun i => w0 ≤ i ∧ i ≠ b1) W1.drew w' → w'.cell? ⟨b1, 1, none⟩ = some (.int .i64 xn) := fun w' h => (h.whole HA1.out.dr (fun q => q.2 rfl)).cell (i := 1) rfl
        have ld2 : ∀ w', Kept (fun i => w0 ≤ i ∧ i ≠ b1) W1.drew w' → w'.cell? ⟨b1, 2, none⟩ = some (.int .i64 xm) := fun w' h => (h.whole HA1.out.dr (fun q => q.2 rfl)).cell (i := 2) rfl
        have ld3 : ∀ w', Kept (fun i => w0 ≤ i ∧ i ≠ b1) W1.drew w' → w'.cell? ⟨b1, 3, none⟩ = some (.slice xa xl xc) := fun w' h => (h.whole HA1.out.dr (fun q => q.2 rfl)).cell (i := 3) rfl
        clear d0 d1 d2 d3
        refine wp_region_reg (fun i => w0 ≤ i ∧ i ≠ b1) (by kernel_rfl) ?_
        apply wpR_next 0 (some 25)
        · simp only [List.getElem?_toArray, List.getElem?_cons_succ, List.getElem?_cons_zero]; exact rfl
        · rfl
        · kernel_rfl
        · kernel_rfl
        · kernel_rfl
        · exact fun _ _ _ _ h => h
        apply Exists.intro
        apply And.intro
        · apply yr_run; rfl; intro w' hw'; go_simp; (try with_reducible rfl)
        simp only [Act.put, List.setIfInBounds_toArray, List.set_cons_zero, List.set_cons_succ]
        apply wpR_next 1 (some 26)
        · simp only [List.getElem?_toArray, List.getElem?_cons_succ, List.getElem?_cons_zero]; exact rfl
        · rfl
        · kernel_rfl
        · kernel_rfl
        · kernel_rfl
        · exact fun _ _ _ _ h => h
        apply Exists.intro
        apply And.intro
        · apply yr_run; rfl; intro w' hw'; go_simp; (try with_reducible rfl)
        simp only [Act.put, List.setIfInBounds_toArray, List.set_cons_zero, List.set_cons_succ]
        apply wpR_next 2 (some 27)
        · simp only [List.getElem?_toArray, List.getElem?_cons_succ, List.getElem?_cons_zero]; exact rfl
        · rfl
        · kernel_rfl
        · kernel_rfl
        · kernel_rfl
        · exact fun _ _ _ _ h => h
        apply Exists.intro
        apply And.intro
        · apply yr_run; rfl; intro w' hw'; go_simp; (try with_reducible rfl)
        simp only [Act.put, List.setIfInBounds_toArray, List.set_cons_zero, List.set_cons_succ]
        apply wpR_next 3 (some 28)
        · simp only [List.getElem?_toArray, List.getElem?_cons_succ, List.getElem?_cons_zero]; exact rfl
        · rfl
        · kernel_rfl
        · kernel_rfl
        · kernel_rfl
        · exact fun _ _ _ _ h => h
        apply Exists.intro
        apply And.intro
        · apply yr_run; rfl; intro w' hw'; go_simp; (try with_reducible rfl)
        simp only [Act.put, List.setIfInBounds_toArray, List.set_cons_zero, List.set_cons_succ]
        apply wpR_next 4 (some 29)
        · simp only [List.getElem?_toArray, List.getElem?_cons_succ, List.getElem?_cons_zero]; exact rfl
        · rfl
        · kernel_rfl
        · kernel_rfl
        · kernel_rfl
        · exact fun _ _ _ _ h => h
        apply Exists.intro
        apply And.intro
        · apply yr_run; rfl; intro w' hw'; go_simp; (try with_reducible rfl)
        simp only [Act.put, List.setIfInBounds_toArray, List.set_cons_zero, List.set_cons_succ]
        apply wpR_next 5 (some 30)
        · simp only [List.getElem?_toArray, List.getElem?_cons_succ, List.getElem?_cons_zero]; exact rfl
        · rfl
        · kernel_rfl
        · kernel_rfl
        · kernel_rfl
        · exact fun _ _ _ _ h => h
        apply Exists.intro
        apply And.intro
        · apply yr_run; rfl; intro w' hw'; go_simp; (try with_reducible rfl)
        simp only [Act.put, List.setIfInBounds_toArray, List.set_cons_zero, List.set_cons_succ]
        apply wpR_next 6 (some 31)
        · simp only [List.getElem?_toArray, List.getElem?_cons_succ, List.getElem?_cons_zero]; exact rfl
        · rfl
        · kernel_rfl
        · kernel_rfl
        · kernel_rfl
        · exact fun _ _ _ _ h => h
        apply Exists.intro
        apply And.intro
        · apply yr_run; rfl; intro w' hw'; go_simp; (try with_reducible rfl)
        simp only [Act.put, List.setIfInBounds_toArray, List.set_cons_zero, List.set_cons_succ]
        apply wpR_next 7 (some 32)
        · simp only [List.getElem?_toArray, List.getElem?_cons_succ, List.getElem?_cons_zero]; exact rfl
        · rfl
        · kernel_rfl
        · kernel_rfl
        · kernel_rfl
        · exact fun _ _ _ _ h => h
        apply Exists.intro
        apply And.intro
        · apply yr_run; rfl; intro w' hw'; go_simp; (try with_reducible rfl)
        simp only [Act.put, List.setIfInBounds_toArray, List.set_cons_zero, List.set_cons_succ]
        apply wpR_next 8 (some 33)
        · simp only [List.getElem?_toArray, List.getElem?_cons_succ, List.getElem?_cons_zero]; exact rfl
        · rfl
        · kernel_rfl
        · kernel_rfl
        · kernel_rfl
        · exact fun _ _ _ _ h => h
        apply Exists.intro
        apply And.intro
        · apply yr_run; rfl; intro w' hw'; go_simp; (try with_reducible rfl)
        simp only [Act.put, List.setIfInBounds_toArray, List.set_cons_zero, List.set_cons_succ]
        apply wpR_next 9 (some 34)
        · simp only [List.getElem?_toArray, List.getElem?_cons_succ, List.getElem?_cons_zero]; exact rfl
        · rfl
        · kernel_rfl
        · kernel_rfl
        · kernel_rfl
        · exact fun _ _ _ _ h => h
        apply Exists.intro
        apply And.intro
        · apply yr_run; rfl; intro w' hw'; go_simp; (try with_reducible rfl)
        simp only [Act.put, List.setIfInBounds_toArray, List.set_cons_zero, List.set_cons_succ]
        apply wpR_next 10 (some 35)
        · simp only [List.getElem?_toArray, List.getElem?_cons_succ, List.getElem?_cons_zero]; exact rfl
        · rfl
        · kernel_rfl
        · kernel_rfl
        · kernel_rfl
        · exact fun _ _ _ _ h => h
        apply Exists.intro
        apply And.intro
        · apply yr_run; rfl; intro w' hw'; go_simp; (try with_reducible rfl)
        simp only [Act.put, List.setIfInBounds_toArray, List.set_cons_zero, List.set_cons_succ]
        apply wpR_next 11 (some 36)
        · simp only [List.getElem?_toArray, List.getElem?_cons_succ, List.getElem?_cons_zero]; exact rfl
        · rfl
        · kernel_rfl
        · kernel_rfl
        · kernel_rfl
        · exact fun _ _ _ _ h => h
        apply Exists.intro
        apply And.intro
        · apply yr_call; rfl; rotate_left; intro w' hw'; exact HSum.out w' hw'; intro w'; go_simp
        simp only [Act.put, List.setIfInBounds_toArray, List.set_cons_zero, List.set_cons_succ]
        apply wpR_next 12 (some 37)
        · simp only [List.getElem?_toArray, List.getElem?_cons_succ, List.getElem?_cons_zero]; exact rfl
        · rfl
        · kernel_rfl
        · kernel_rfl
        · kernel_rfl
        · exact fun _ _ _ _ h => h
        apply Exists.intro
        apply And.intro
        · apply yr_run; rfl; intro w' hw'; go_simp; (try with_reducible rfl)
        simp only [Act.put, List.setIfInBounds_toArray, List.set_cons_zero, List.set_cons_succ]
        apply wpR_run 13 (some 38)
        · simp only [List.getElem?_toArray, List.getElem?_cons_succ, List.getElem?_cons_zero]; exact rfl
        · rfl
        · kernel_rfl
        · rfl
        intro w' hw'
        refine ⟨.slice (some ⟨w'.heap.size, 0, none⟩) 5 5, w'.alloc (.cells #[.int .i64 xk, .int .i64 xn, .int .i64 xm, .int .i64 (xl : Int), .int .i64 (cr : Int)] 3), exec_buildSlice 51 3 5 #[(0, .tmp 26), (1, .tmp 28), (2, .tmp 30), (3, .tmp 33), (4, .tmp 37)] (by rfl) Tryz.underlying51 _ (by kernel_rfl), Kept.of_below (below1 _ _), ?_⟩
        have HXd : RowKit.Hid (Below W1.heap.size W1 (w'.alloc (.cells #[.int .i64 xk, .int .i64 xn, .int .i64 xm, .int .i64 (xl : Int), .int .i64 (cr : Int)] 3))) := Lib.hid (Ext.trans ((Below.refl _ W1).drew.trans hw') (below1 _ _))
        have HLr : RowKit.Hid (RdS (w'.alloc (.cells #[.int .i64 xk, .int .i64 xn, .int .i64 xm, .int .i64 (xl : Int), .int .i64 (cr : Int)] 3)) (w'.alloc (.cells #[.int .i64 xk, .int .i64 xn, .int .i64 xm, .int .i64 (xl : Int), .int .i64 (cr : Int)] 3)).heap.size 1 (some ⟨w'.heap.size, 0, none⟩) 5 5 (rowsV i1 [xk, xn, xm, xl, cr])) := Lib.hid (RdS.of_whole (Whole.new_ _ _ _) rfl)
        obtain ⟨V3, gV3⟩ : ∃ z, w'.alloc (.cells #[.int .i64 xk, .int .i64 xn, .int .i64 xm, .int .i64 (xl : Int), .int .i64 (cr : Int)] 3) = z := ⟨_, rfl⟩
        obtain ⟨g3, gg3⟩ : ∃ z, w'.heap.size = z := ⟨_, rfl⟩
        rw [gV3] at HXd HLr ⊢
        rw [gg3] at HLr ⊢
        clear hw' gV3 gg3
        simp only [Act.put, List.setIfInBounds_toArray, List.set_cons_zero, List.set_cons_succ]
        apply wpR_call 14 (some 39)
        · simp only [List.getElem?_toArray, List.getElem?_cons_succ, List.getElem?_cons_zero]; exact rfl
        · rfl
        · kernel_rfl
        · rfl
        · intro w'; go_simp; first | done | exact ⟨rfl, rfl⟩ | with_reducible rfl
        intro w' hw'
        refine (HLn.out w' _ (HXd.out.trans (hw'.mono HXd.out.size)) (HLr.out.bl hw')).mono ?_
        rintro e w9 ⟨rfl, hb9⟩
        refine ⟨_, rfl, Kept.of_below hb9, ?_⟩
        have HX9 := Lib.hid (Ext.trans (Ext.trans HXd.out hw') hb9)
        clear hw' hb9 HXd HLr
        simp only [Act.put, List.setIfInBounds_toArray, List.set_cons_zero, List.set_cons_succ]
        apply wpR_call 15 (some 40)
        · simp only [List.getElem?_toArray, List.getElem?_cons_succ, List.getElem?_cons_zero]; exact rfl
        · rfl
        · kernel_rfl
        · rfl
        · intro w'; go_simp; first | done | exact ⟨rfl, rfl⟩ | with_reducible rfl
        intro w' hw'
        have hx := Ext.trans HX9.out hw'
        have hbd := Bf.below HBd.out hx
        refine (Tryz.Builder_WriteString_k w0 b0 _ t w' hbd (by rw [Lib.byteCells_length]; have := HLe.out; omega) (by have := HB1.out.size; have := hx.size; have := Hbw.out.1; omega)).mono ?_
        rintro e w9 ⟨rfl, hbe, hb9, hk9⟩
        have hkp : Kept (fun i => w0 ≤ i ∧ i ≠ b1) w' w9 := ⟨hb9.os, hb9.tape, hb9.output, hb9.size, fun i hi hn => by
          by_cases h1 : i < w0
          · exact hb9.block i h1
          · obtain rfl : i = b1 := by
              by_cases h2 : i = b1
              · exact h2
              · exact absurd ⟨by omega, h2⟩ hn
            exact okb hk9 (HA1.out.bl hx) (by decide) HNb.out⟩
        refine ⟨_, rfl, hkp, ?_⟩
        have HBe := Lib.hid (Bf.of hbe HEq.out)
        have HBx := Lib.hid (HB1.out.trans ((hx.mono (by have := HB1.out.size; have := Hbw.out.1; omega)).trans hb9))
        have Hbz : RowKit.Hid (b0 < w9.heap.size) := Lib.hid (by have := hb9.size; have := hx.size; have := Hw2.out; omega)
        clear hx hbd hbe hk9 hkp hb9 HX9 HBd HB1 HA1
        simp only [Act.put, List.setIfInBounds_toArray, List.set_cons_zero, List.set_cons_succ]
        refine wpR_done (by kernel_rfl) ?_ _
        intro w8 hw8
        have HB8 := Lib.hid (HBx.out.trans (hw8.mono (by have := HBx.out.size; have := Hbw.out.1; omega)))
        have HBf8 := Lib.hid (Bf.below HBe.out hw8)
        have Hs8 : RowKit.Hid (b0 < w8.heap.size) := Lib.hid (by have := hw8.size; have := Hbz.out; omega)
        clear hw8 HBx HBe ld0 ld1 ld2 ld3
        go_wp2
        go_roundw
        case rel => exact ⟨j + 1, by omega, by go_num, HB8, HBf8, Hs8⟩
        case measure => simp [intOf]; omega
    · obtain rfl : n = j := by omega
      have HE : RowKit.Hid (Bf w0 b0 (showB L) wo) := Lib.hid (by
        have := HBd.out
        rwa [List.take_of_length_le (by have := Hl.out; omega)] at this)
      have HSt : RowKit.Hid (∀ W, Bf w0 b0 (showB L) W → w0 ≤ W.heap.size → Calls Tryz.prog 12 #[.pointer (some ⟨b0, 0, none⟩)] W fun e w' => e = .returned (.string (bS (showB L))) ∧ Below w0 W w') := Lib.hid (fun W h1 h2 => (Tryz.Builder_String_any_k w0 b0 (showB L) W h1 h2).mono (fun e w' q => ⟨q.1, q.2.2.1⟩))
      go_wp2_with (go_at_call 12; refine (HSt.out _ HE.out (by have := HB.out.size; have := Hbw.out.1; omega)).mono ?_; rintro e w2 ⟨rfl, hb2⟩)
      go_ret
      exact ⟨rfl, by have := HB.out.trans hb2; rwa [Hbw.out.1] at this⟩
end Go.Proofs.YtinhenmafjoaoaaGreatDoor
