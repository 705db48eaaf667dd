/- The law DeskShows. -/
import Derived.Test.YtinhenmafjoaoaaGreatDoorDk5
namespace Go.Proofs.YtinhenmafjoaoaaGreatDoor
open Go.RowKit
set_option linter.unusedSimpArgs false
set_option linter.unusedVariables false

theorem Ow.set_far_ {w W : World} {B size n g i : Nat} {e : TypeId} {v : Value} {xs : List Value} (h : Ow w B e size v n xs W) (hne : some g ≠ v.ownBlock) (hg : w.heap.size ≤ g) (u : Value) : Ow w B e size v n xs (W.setCell ⟨g, i, none⟩ u) :=
  ⟨h.own.kept (row := some g) ⟨rfl, rfl, rfl, by simp [World.setCell], fun k _ hk => Below.heap_setCell _ _ _ _ (by
    rintro rfl
    exact hk rfl)⟩ (by first | exact hne | exact hne.symm | exact .inr hne | exact .inr hne.symm), h.below.setCell hg u, h.lo, by simpa [World.setCell] using h.hi⟩
theorem info_ans : (Tryz.prog.info? 27).map (fun i => (i.zero, i.size, i.bytes)) = some (some (.agg #[.int .i64 0, .int .i64 0, .int .i64 0, .slice none 0 0]), 4, 48) := by kernel_rfl
theorem pushA {w W : World} {lo : Nat} {A : Option Addr} {n c : Nat} {T : List AnT} (how : Ow w lo 27 4 (.slice A n c) n (rowsV anC T) W) (x : AnT) (hn : n ≤ 2000) :
    ∃ A' c' W', (Builtin.append_ #[22, 22] 22 #[.slice A n c, .slice (some ⟨W.heap.size, 0, none⟩) 1 1]).run Tryz.prog (W.alloc (.cells (anC x).toArray 27)) = .ok (.slice A' (n + 1) c') W' ∧ Ow w lo 27 4 (.slice A' (n + 1) c') (n + 1) (rowsV anC (T ++ [x])) W' ∧ Below lo W W' := by
  obtain ⟨i, hi, hz0, hz1, hz2⟩ := info_parts_ info_ans
  obtain ⟨v', W', hrun, ho, hb⟩ := Ow.app (P := Tryz.prog) 22 22 27 i _ 4 48 lo Tryz.underlying22 hi hz0 hz1 hz2 rfl (by decide) _ _ _ (how.up (below1 W (.cells (anC x).toArray 27))) _ _ 1 1 _ (RdS.of_whole (Whole.new_ W 27 (anC x)) rfl) (anC_one x) (by unfold maxLen; omega) (by omega)
  rw [show rowsV anC T ++ anC x = rowsV anC (T ++ [x]) by rw [rowsV_app]; simp [rowsV]] at ho
  obtain ⟨A', c', rfl, -⟩ := ho.rds
  exact ⟨A', c', W', hrun, ho, ((below1 W _).mono how.hi).trans hb⟩
/-- An answer of 600 bytes at most. -/
def cutA (x : AnT) : AnT := if 600 < x.l then { x with l := 600, b := x.b.take 600 } else x
theorem AnOk.cutA {w : World} {x : AnT} (h : AnOk w x) : AnOk w (cutA x) := by
  unfold Go.Proofs.YtinhenmafjoaoaaGreatDoor.cutA
  split
  · exact h.cut 600 (by omega)
  · exact h
theorem map_next {α β : Type} (g : α → β) {L : List α} {j : Nat} {x : α} (h : L[j]? = some x) : (L.take (j + 1)).map g = (L.take j).map g ++ [g x] := by
  rw [take_snoc_ L j x h, List.map_append]
  rfl
set_option maxRecDepth 100000 in
set_option maxHeartbeats 4000000 in
theorem law_shows (A : Option Addr) (n c : Nat) (L : List AnT) (w : World) (h : RdS w w.heap.size 4 A n c (rowsV anC L)) (hA : ∀ x ∈ L, AnOk w x) (hn : n ≤ maxLen) (ht : Tb w) :
    Calls Tryz.prog 3 #[.slice A n c] w fun e w' => e = .returned (.bool true) ∧ Below w.heap.size w w' := by
  have Hl := Lib.hid (h.rlen anC_len (by decide))
  have H := Lib.hid h
  have HA := Lib.hid hA
  have HT := Lib.hid ht
  have Hn := Lib.hid hn
  have HSh := Lib.hid (shown24_any w ht)
  clear h hA ht hn
  go_enter Tryz.func3, Tryz.ntmps3
  go_upto_region 4 with (go_at_call 5; refine HSh.out.mono ?_; rintro e w2 ⟨rfl, hb2⟩; have HB2 := Lib.hid hb2; clear hb2 HSh)
  have HO0 : RowKit.Hid (Ow w w2.heap.size 27 4 (.slice (some ⟨w2.heap.size, 0, none⟩) 0 0) 0 (rowsV anC ((L.take 0).map cutA)) (w2.alloc (.cells #[] 27))) := Lib.hid (Ow.new_ (cs := #[]) HB2.out HB2.out.size (Nat.le_refl _) (by decide) rfl)
  obtain ⟨A0, gA0⟩ : ∃ z, some (⟨w2.heap.size, 0, none⟩ : Addr) = z := ⟨_, rfl⟩
  obtain ⟨W4, gW4⟩ : ∃ z, w2.alloc (.cells #[] 27) = z := ⟨_, rfl⟩
  obtain ⟨lo, glo⟩ : ∃ z, w2.heap.size = z := ⟨_, rfl⟩
  rw [gA0, gW4] at HO0
  rw [glo] at HO0
  rw [gA0, gW4]
  clear gA0 gW4 glo HB2
  go_loopw [4, 5] (fun vs vi wr => ∃ (j : Nat) (A2 : Option Addr) (c2 : Nat), j ≤ n ∧ j ≤ 30 ∧ vs = .slice A2 j c2 ∧ vi = .int .i64 (j : Int) ∧ RowKit.Hid (Ow w lo 27 4 (.slice A2 j c2) j (rowsV anC ((L.take j).map cutA)) wr)) (fun _ vi _ => n - (intOf vi).toNat)
  case atStart => exact ⟨0, A0, 0, Nat.zero_le _, Nat.zero_le _, rfl, rfl, HO0⟩
  case round =>
    clear HO0
    obtain ⟨j, A2, c2, hj, hj30, rfl, rfl, HO⟩ := hrel
    obtain ⟨wo, gwo⟩ : ∃ z, wr = z := ⟨_, rfl⟩
    rw [gwo] at HO ⊢
    clear gwo
    by_cases hjn : j < n
    · have hji : (j : Int) < (n : Int) := by omega
      by_cases hj3 : j < 30
      · have hj3i : (j : Int) < 30 := by omega
        obtain ⟨x, hx⟩ : ∃ x, L[j]? = some x := ⟨_, List.getElem?_eq_getElem (by have := Hl.out; omega)⟩
        obtain ⟨bb, off, rfl, hbB, hpl⟩ := H.out.place anC_len (by decide) (by omega)
        have hp : ∀ i u, (anC x)[i]? = some u → wo.cell? ((⟨bb, off + j * 4, none⟩ : Addr).add i) = some u := fun i u hu => (HO.out.below.cell (by rw [add_block]; exact hbB)).trans (hpl j x hx i u hu)
        have HN : RowKit.Hid ((L.take (j + 1)).map cutA = (L.take j).map cutA ++ [cutA x]) := Lib.hid (map_next cutA hx)
        have hs := (HA.out x (List.mem_of_getElem? hx)).s
        have hlc := (HA.out x (List.mem_of_getElem? hx)).r.le
        obtain ⟨xk, xn, xm, xa, xl, xc, xb⟩ := x
        have l0 := hp 0 _ rfl
        have l1 := hp 1 _ rfl
        have l2 := hp 2 _ rfl
        have l3 := hp 3 _ rfl
        simp only [Addr.add_lit, Nat.add_zero, Nat.zero_add] at l0 l1 l2 l3
        dsimp only at hs hlc
        have hcu : cutA ⟨xk, xn, xm, xa, xl, xc, xb⟩ = if 600 < xl then ⟨xk, xn, xm, xa, 600, xc, xb.take 600⟩ else ⟨xk, xn, xm, xa, xl, xc, xb⟩ := rfl
        clear hp hx hpl hbB
        go_upto_region 7 with fail
        have HX1 : RowKit.Hid (Whole (wo.alloc (.cells #[.int .i64 xk, .int .i64 xn, .int .i64 xm, .slice xa xl xc] 27)) wo.heap.size 27 (anC ⟨xk, xn, xm, xa, xl, xc, xb⟩)) := Lib.hid (Whole.new_ _ _ _)
        have HO1 := Lib.hid (HO.out.up (below1 wo (.cells #[.int .i64 xk, .int .i64 xn, .int .i64 xm, .slice xa xl xc] 27)))
        have HL1 : RowKit.Hid (lo ≤ wo.heap.size ∧ w.heap.size ≤ wo.heap.size) := Lib.hid ⟨HO.out.hi, HO.out.below.size⟩
        obtain ⟨W1, gW1⟩ : ∃ z, wo.alloc (.cells #[.int .i64 xk, .int .i64 xn, .int .i64 xm, .slice xa xl xc] 27) = z := ⟨_, rfl⟩
        have Hne : RowKit.Hid (some wo.heap.size ≠ (Value.slice A2 j c2).ownBlock) := Lib.hid (fun e => by have := (HO.out.own.lt _ e.symm).2; omega)
        obtain ⟨b1, gb1⟩ : ∃ z, wo.heap.size = z := ⟨_, rfl⟩
        rw [gW1] at HX1 HO1 ⊢
        rw [gb1] at HX1 HL1 Hne ⊢
        clear gW1 gb1 l0 l1 l2 l3 HO
        have d3 := HX1.out.cell (i := 3) rfl
        by_cases hx6 : 600 < xl
        · have hx6i : (600 : Int) < (xl : Int) := by omega
          rw [if_pos hx6] at hcu
          rw [hcu] at HN
          go_upto_region 8 with fail
          refine wp_region_lit ?_
          refine wl_read (v := ?_) (some 27) rfl (by rfl) ?_ ?_
          rotate_left
          · go_simp; (try with_reducible rfl)
          simp only [Act.put, List.setIfInBounds_toArray, List.set_cons_zero, List.set_cons_succ]
          refine wl_read (v := ?_) (some 28) rfl (by rfl) ?_ ?_
          rotate_left
          · go_simp; (try with_reducible rfl)
          simp only [Act.put, List.setIfInBounds_toArray, List.set_cons_zero, List.set_cons_succ]
          refine wl_read (some 29) rfl (by rfl) (exec_slice_high 25 5 (.tmp 28) (.const (.int .i64 600)) rfl Tryz.underlying25 (s := 1) (by kernel_rfl) rfl (k := 600) rfl (by omega)) ?_
          simp only [Act.put, List.setIfInBounds_toArray, List.set_cons_zero, List.set_cons_succ]
          have f3 := HX1.out.free 3
          have HX2 : RowKit.Hid (Whole (W1.setCell ⟨b1, 3, none⟩ (.slice xa 600 xc)) b1 27 (anC ⟨xk, xn, xm, xa, 600, xc, xb.take 600⟩)) := Lib.hid (HX1.out.set_ 3 (.slice xa 600 xc))
          have HO2 := Lib.hid (HO1.out.set_far_ Hne.out HL1.out.2 (.slice xa 600 xc) (i := 3))
          go_upto_region 9 with fail
          generalize World.setCell W1 _ _ = W2 at HX2 HO2 ⊢
          clear d3 f3 HX1 HO1
          obtain ⟨A3, c3, W3, hrun, ho3, hb3⟩ := pushA HO2.out ⟨xk, xn, xm, xa, 600, xc, xb.take 600⟩ (by omega)
          have HO3 := Lib.hid ho3
          clear ho3 hb3
          refine wp_region_lit ?_
          refine wl_read (v := ?_) (some 31) rfl (by rfl) ?_ ?_
          rotate_left
          · go_simp; (try with_reducible rfl)
          simp only [Act.put, List.setIfInBounds_toArray, List.set_cons_zero, List.set_cons_succ]
          refine wl_load (some 32) rfl (by rfl) 27 (.tmp 6) rfl b1 rfl 27 (anC ⟨xk, xn, xm, xa, 600, xc, xb.take 600⟩) _ HX2.out Tryz.underlying27 rfl (by kernel_rfl) ?_
          simp only [Act.put, List.setIfInBounds_toArray, List.set_cons_zero, List.set_cons_succ]
          refine wl_buildSlice (some 33) rfl (by rfl) 22 27 1 #[(0, .tmp 32)] (by rfl) Tryz.underlying22 (anC ⟨xk, xn, xm, xa, 600, xc, xb.take 600⟩).toArray (by kernel_rfl) ?_
          simp only [Act.put, List.setIfInBounds_toArray, List.set_cons_zero, List.set_cons_succ]
          refine wl_run (some 34) rfl (by rfl) (exec_append (by rfl) (by rfl) (by rfl) hrun) ?_
          simp only [Act.put, List.setIfInBounds_toArray, List.set_cons_zero, List.set_cons_succ]
          clear hrun
          obtain ⟨W5, gW5⟩ : ∃ z, W3 = z := ⟨_, rfl⟩
          rw [gW5] at HO3 ⊢
          clear gW5
          have HO5 : RowKit.Hid (Ow w lo 27 4 (.slice A3 (j + 1) c3) (j + 1) (rowsV anC ((L.take (j + 1)).map cutA)) W5) := Lib.hid (by rw [HN.out]; exact HO3.out)
          clear HO3 HN
          go_wp2
          go_roundw
          case rel => exact ⟨j + 1, A3, c3, by omega, by omega, rfl, by go_num, HO5⟩
          case measure => simp [intOf]; omega
        · have hx6i : ¬ (600 : Int) < (xl : Int) := by omega
          rw [if_neg hx6] at hcu
          rw [hcu] at HN
          go_upto_region 9 with fail
          clear d3
          obtain ⟨A3, c3, W3, hrun, ho3, hb3⟩ := pushA HO1.out ⟨xk, xn, xm, xa, xl, xc, xb⟩ (by omega)
          have HO3 := Lib.hid ho3
          clear ho3 hb3
          refine wp_region_lit ?_
          refine wl_read (v := ?_) (some 31) rfl (by rfl) ?_ ?_
          rotate_left
          · go_simp; (try with_reducible rfl)
          simp only [Act.put, List.setIfInBounds_toArray, List.set_cons_zero, List.set_cons_succ]
          refine wl_load (some 32) rfl (by rfl) 27 (.tmp 6) rfl b1 rfl 27 (anC ⟨xk, xn, xm, xa, xl, xc, xb⟩) _ HX1.out Tryz.underlying27 rfl (by kernel_rfl) ?_
          simp only [Act.put, List.setIfInBounds_toArray, List.set_cons_zero, List.set_cons_succ]
          refine wl_buildSlice (some 33) rfl (by rfl) 22 27 1 #[(0, .tmp 32)] (by rfl) Tryz.underlying22 (anC ⟨xk, xn, xm, xa, xl, xc, xb⟩).toArray (by kernel_rfl) ?_
          simp only [Act.put, List.setIfInBounds_toArray, List.set_cons_zero, List.set_cons_succ]
          refine wl_run (some 34) rfl (by rfl) (exec_append (by rfl) (by rfl) (by rfl) hrun) ?_
          simp only [Act.put, List.setIfInBounds_toArray, List.set_cons_zero, List.set_cons_succ]
          clear hrun
          obtain ⟨W5, gW5⟩ : ∃ z, W3 = z := ⟨_, rfl⟩
          rw [gW5] at HO3 ⊢
          clear gW5
          have HO5 : RowKit.Hid (Ow w lo 27 4 (.slice A3 (j + 1) c3) (j + 1) (rowsV anC ((L.take (j + 1)).map cutA)) W5) := Lib.hid (by rw [HN.out]; exact HO3.out)
          clear HO3 HN
          go_wp2
          go_roundw
          case rel => exact ⟨j + 1, A3, c3, by omega, by omega, rfl, by go_num, HO5⟩
          case measure => simp [intOf]; omega
      · have hj3i : ¬ (j : Int) < 30 := by omega
        have HRo : RowKit.Hid (RdS wo wo.heap.size 4 A2 j c2 (rowsV anC ((L.take j).map cutA))) := Lib.hid (own_rds HO.out.own)
        have HBo := Lib.hid HO.out.below
        have HMo : RowKit.Hid (∀ W, Below wo.heap.size wo W → ∀ x ∈ (L.take j).map cutA, AnOk W x) := Lib.hid (fun W hb x hx => by
          obtain ⟨y, hy, rfl⟩ := List.mem_map.1 hx
          exact (HA.out y (List.mem_of_mem_take hy)).cutA.bl (HBo.out.trans (hb.mono HBo.out.size)))
        obtain ⟨M, gM⟩ : ∃ z, (L.take j).map cutA = z := ⟨_, rfl⟩
        rw [gM] at HRo HMo
        have HS := Lib.hid (fun (W : World) (hb : Below wo.heap.size wo W) => show_any A2 j c2 M W (HRo.out.bl hb) (HMo.out W hb) (by omega) (HT.out.bl (HBo.out.trans (hb.mono HBo.out.size))))
        have HRs := Lib.hid (fun (W : World) (hb : Below wo.heap.size wo W) => rshow_any A2 j c2 M W (HRo.out.bl hb) (HMo.out W hb) (by omega) (HT.out.bl (HBo.out.trans (hb.mono HBo.out.size))))
        obtain ⟨t, gt⟩ : ∃ z, bS (showB M) = z := ⟨_, rfl⟩
        rw [gt] at HS HRs
        have hq : (t.toList == t.toList) = true := by simp
        clear gt gM HRo HMo HO
        go_wp2_with (first
          | (go_at_call 6
             refine (HS.out _ (Below.refl _ _)).mono ?_
             rintro e w2 ⟨rfl, hb2⟩
             have HB2 := Lib.hid hb2
             clear hb2)
          | (go_at_call 7
             refine (HRs.out _ HB2.out).mono ?_
             rintro e w3 ⟨rfl, hb3⟩
             have HB3 := Lib.hid (bel_bl HB2.out hb3)
             clear hb3))
        go_ret
        exact ⟨rfl, HBo.out.trans (HB3.out.mono HBo.out.size)⟩
    · have hji : ¬ (j : Int) < (n : Int) := by omega
      have HRo : RowKit.Hid (RdS wo wo.heap.size 4 A2 j c2 (rowsV anC ((L.take j).map cutA))) := Lib.hid (own_rds HO.out.own)
      have HBo := Lib.hid HO.out.below
      have HMo : RowKit.Hid (∀ W, Below wo.heap.size wo W → ∀ x ∈ (L.take j).map cutA, AnOk W x) := Lib.hid (fun W hb x hx => by
        obtain ⟨y, hy, rfl⟩ := List.mem_map.1 hx
        exact (HA.out y (List.mem_of_mem_take hy)).cutA.bl (HBo.out.trans (hb.mono HBo.out.size)))
      obtain ⟨M, gM⟩ : ∃ z, (L.take j).map cutA = z := ⟨_, rfl⟩
      rw [gM] at HRo HMo
      have HS := Lib.hid (fun (W : World) (hb : Below wo.heap.size wo W) => show_any A2 j c2 M W (HRo.out.bl hb) (HMo.out W hb) (by omega) (HT.out.bl (HBo.out.trans (hb.mono HBo.out.size))))
      have HRs := Lib.hid (fun (W : World) (hb : Below wo.heap.size wo W) => rshow_any A2 j c2 M W (HRo.out.bl hb) (HMo.out W hb) (by omega) (HT.out.bl (HBo.out.trans (hb.mono HBo.out.size))))
      obtain ⟨t, gt⟩ : ∃ z, bS (showB M) = z := ⟨_, rfl⟩
      rw [gt] at HS HRs
      have hq : (t.toList == t.toList) = true := by simp
      clear gt gM HRo HMo HO
      go_wp2_with (first
        | (go_at_call 6
           refine (HS.out _ (Below.refl _ _)).mono ?_
           rintro e w2 ⟨rfl, hb2⟩
           have HB2 := Lib.hid hb2
           clear hb2)
        | (go_at_call 7
           refine (HRs.out _ HB2.out).mono ?_
           rintro e w3 ⟨rfl, hb3⟩
           have HB3 := Lib.hid (bel_bl HB2.out hb3)
           clear hb3))
      go_ret
      exact ⟨rfl, HBo.out.trans (HB3.out.mono HBo.out.size)⟩
end Go.Proofs.YtinhenmafjoaoaaGreatDoor
