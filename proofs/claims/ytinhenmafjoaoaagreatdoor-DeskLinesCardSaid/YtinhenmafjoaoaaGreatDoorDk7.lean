/- The law DeskLines. -/
import Derived.Test.YtinhenmafjoaoaaGreatDoorDk6
namespace Go.Proofs.YtinhenmafjoaoaaGreatDoor
open Go.RowKit
set_option linter.unusedSimpArgs false
set_option linter.unusedVariables false

theorem putR_set {cs vs : List Value} {o i : Nat} {u : Value} (hc : ∀ j v, vs[j]? = some v → cs[o + j]? = some v) (hi : i < vs.length) (hl : o + vs.length ≤ cs.length) : putR cs o (vs.set i u) = cs.set (o + i) u := by
  unfold putR
  rw [List.length_set]
  apply List.ext_getElem?
  intro p
  rw [List.getElem?_set]
  have ht : (cs.take o).length = o := by rw [List.length_take]; omega
  rcases Nat.lt_or_ge p o with h1 | h1
  · rw [List.getElem?_append_left (by omega), List.getElem?_take, if_pos h1, if_neg (by omega)]
  · rw [List.getElem?_append_right (by omega), ht]
    rcases Nat.lt_or_ge (p - o) vs.length with h2 | h2
    · rw [List.getElem?_append_left (by rw [List.length_set]; exact h2), List.getElem?_set]
      by_cases h3 : i = p - o
      · subst h3
        rw [if_pos rfl, if_pos h2, if_pos (by omega), if_pos (by omega)]
      · rw [if_neg h3, if_neg (by omega)]
        have := hc (p - o) _ (List.getElem?_eq_getElem h2)
        rw [show o + (p - o) = p by omega] at this
        rw [this, List.getElem?_eq_getElem h2]
    · rw [List.getElem?_append_right (by rw [List.length_set]; exact h2), List.length_set, List.getElem?_drop, if_neg (by omega)]
      congr 1
      omega
theorem own_poke {α : Type} {f : α → List Value} {s : Nat} (hs : ∀ x, (f x).length = s) {W : World} {lo n c : Nat} {T : TypeId} {A : Option Addr} {L : List α} (h : W.ownsRow lo T s (.slice A n c) n (rowsV f L)) {j i : Nat} {x y : α} {u : Value}
    (hx : L[j]? = some x) (hn : j < n) (hi : i < s) (hy : f y = (f x).set i u) :
    ∃ g junk, A = some ⟨g, 0, none⟩ ∧ lo ≤ g ∧ Whole W g T (rowsV f L ++ junk) ∧ W.cell? ⟨g, j * s + i, none⟩ = (f x)[i]? ∧ W.frozen? ⟨g, j * s + i, none⟩ = false ∧
      (W.setCell ⟨g, j * s + i, none⟩ u).ownsRow lo T s (.slice A n c) n (rowsV f (L.set j y)) := by
  obtain ⟨g, junk, rfl, hlo, hw, hl, hnc, hcm, hxl⟩ := own_place h (by omega)
  have hlen := rowsV_length f hs L
  have hj := (List.getElem?_eq_some_iff.1 hx).1
  have hjl : (j + 1) * s ≤ L.length * s := Nat.mul_le_mul_right _ hj
  rw [Nat.succ_mul] at hjl
  have hg : ∀ p v, (f x)[p]? = some v → (rowsV f L ++ junk)[j * s + p]? = some v := fun p v hv => by
    have h1 := rowsV_get f hs L j x hx p v hv
    rw [List.getElem?_append_left (List.getElem?_eq_some_iff.1 h1).1]
    exact h1
  have hi' : i < (f x).length := by rw [hs]; exact hi
  have hput : putR (rowsV f L ++ junk) (j * s) (f y) = (rowsV f L ++ junk).set (j * s + i) u := by
    rw [hy]
    exact putR_set hg hi' (by rw [List.length_append, hs]; omega)
  rw [rowsV_put hs L junk j y hj] at hput
  have hw2 := hw.set_ (j * s + i) u
  rw [← hput] at hw2
  refine ⟨g, junk, rfl, hlo, hw, ?_, hw.free _, own_mk hw2 hlo ?_ hnc hcm ?_⟩
  · rw [List.getElem?_eq_getElem hi']
    exact hw.cell (hg i _ (List.getElem?_eq_getElem hi'))
  · rw [hput, List.length_set]
    exact hl
  · rw [rowsV_length f hs, List.length_set, ← hlen]
    exact hxl

/-- The first k cut to 600 bytes. -/
def cutN (T : List AnT) (k : Nat) : List AnT := (T.take k).map cutA ++ T.drop k
theorem cutN_zero (T : List AnT) : cutN T 0 = T := by simp [cutN]
theorem cutN_all (T : List AnT) : cutN T T.length = T.map cutA := by simp [cutN]
theorem cutN_len (T : List AnT) (k : Nat) : (cutN T k).length = T.length := by simp [cutN]; omega
theorem cutN_get {T : List AnT} {k : Nat} {x : AnT} (h : T[k]? = some x) : (cutN T k)[k]? = some x := by
  have hk := (List.getElem?_eq_some_iff.1 h).1
  unfold cutN
  rw [List.getElem?_append_right (by simp; omega)]
  simp only [List.length_map, List.length_take, Nat.min_eq_left (Nat.le_of_lt hk), Nat.sub_self, List.getElem?_drop, Nat.add_zero]
  exact h
theorem cutN_next {T : List AnT} {k : Nat} {x : AnT} (h : T[k]? = some x) : (cutN T k).set k (cutA x) = cutN T (k + 1) := by
  have hk := (List.getElem?_eq_some_iff.1 h).1
  unfold cutN
  rw [map_next cutA h, List.drop_eq_getElem_cons hk, (List.getElem?_eq_some_iff.1 h).2, List.set_append]
  have hl : ((T.take k).map cutA).length = k := by simp; omega
  rw [if_neg (by omega), hl, Nat.sub_self]
  simp
theorem cutN_at {T : List AnT} {k : Nat} {x : AnT} (h : T[k]? = some x) : ((cutN T (k + 1)).drop k).take 1 = [cutA x] := by
  have hk := (List.getElem?_eq_some_iff.1 h).1
  have hl : ((T.take k).map cutA).length = k := by simp; omega
  unfold cutN
  rw [map_next cutA h, List.append_assoc, List.drop_append, hl, Nat.sub_self, List.drop_of_length_le (by omega)]
  rfl
theorem set_same {α : Type} {l : List α} {i : Nat} {x : α} (h : l[i]? = some x) : l.set i x = l := by
  obtain ⟨h1, h2⟩ := List.getElem?_eq_some_iff.1 h
  rw [← h2]
  exact List.set_getElem_self h1
theorem cutN_same {T : List AnT} {k : Nat} {x : AnT} (h : T[k]? = some x) (e : cutA x = x) : cutN T (k + 1) = cutN T k := by
  have h1 := cutN_next h
  rw [e, set_same (cutN_get h)] at h1
  exact h1.symm
theorem cutA_big {xk xn xm : Int} {xa : Option Addr} {xl xc : Nat} {xb : List Nat} (h : 600 < xl) : cutA ⟨xk, xn, xm, xa, xl, xc, xb⟩ = ⟨xk, xn, xm, xa, 600, xc, xb.take 600⟩ := by unfold cutA; rw [if_pos h]
theorem cutA_small {x : AnT} (h : ¬ 600 < x.l) : cutA x = x := by unfold cutA; rw [if_neg h]
set_option maxRecDepth 100000 in
set_option maxHeartbeats 4000000 in
theorem law_lines (A : Option Addr) (n c : Nat) (L : List AnT) (B : Option Addr) (m k : Nat) (M : List AnT) (w : World) (h : RdS w w.heap.size 4 A n c (rowsV anC L)) (hA : ∀ x ∈ L, AnOk w x) (hn : n ≤ maxLen) (h' : RdS w w.heap.size 4 B m k (rowsV anC M)) (hA' : ∀ x ∈ M, AnOk w x) (hm : m ≤ maxLen) (ht : Tb w) :
    Calls Tryz.prog 4 #[.slice A n c, .slice B m k] w fun e w' => e = .returned (.bool true) ∧ Below w.heap.size w w' := by
  have Hl := Lib.hid (h.rlen anC_len (by decide))
  have Hm := Lib.hid (h'.rlen anC_len (by decide))
  have H := Lib.hid h
  have HM := Lib.hid h'
  have HA := Lib.hid hA
  have HMA := Lib.hid hA'
  have HT := Lib.hid ht
  have HSh := Lib.hid (shown24_any w ht)
  clear h h' hA hA' ht hn hm
  go_enter Tryz.func4, Tryz.ntmps4
  go_upto_region 4 with (go_at_call 5; refine HSh.out.mono ?_; rintro e w2 ⟨rfl, hb2⟩; have HB2 := Lib.hid hb2; clear hb2 HSh)
  have HO0 : RowKit.Hid (Ow w w2.heap.size 27 4 (.slice (some ⟨w2.heap.size, 0, none⟩) 0 0) 0 (rowsV anC (L.take 0)) (w2.alloc (.cells #[] 27))) := Lib.hid (Ow.new_ (cs := #[]) HB2.out HB2.out.size (Nat.le_refl _) (by decide) rfl)
  obtain ⟨A0, gA0⟩ : ∃ z, some (⟨w2.heap.size, 0, none⟩ : Addr) = z := ⟨_, rfl⟩
  obtain ⟨W4, gW4⟩ : ∃ z, w2.alloc (.cells #[] 27) = z := ⟨_, rfl⟩
  obtain ⟨lo, glo⟩ : ∃ z, w2.heap.size = z := ⟨_, rfl⟩
  rw [gA0, gW4] at HO0
  rw [glo] at HO0
  rw [gA0, gW4]
  clear gA0 gW4 glo HB2
  go_loopw [6, 7] (fun vs vi wr => ∃ (j : Nat) (A2 : Option Addr) (c2 : Nat), j ≤ n ∧ j ≤ 20 ∧ vs = .slice A2 (j) c2 ∧ vi = .int .i64 (j : Int) ∧ RowKit.Hid (Ow w lo 27 4 (.slice A2 (j) c2) (j) (rowsV anC (L.take j)) wr)) (fun _ vi _ => n - (intOf vi).toNat)
  case atStart => exact ⟨0, A0, 0, Nat.zero_le _, Nat.zero_le _, rfl, rfl, HO0⟩
  case round =>
    clear HO0
    obtain ⟨j, A2, c2, hj, hj20, rfl, rfl, HO⟩ := hrel
    obtain ⟨wo, gwo⟩ : ∃ z, wr = z := ⟨_, rfl⟩
    rw [gwo] at HO ⊢
    clear gwo
    by_cases hc : j < n ∧ j < 20
    · obtain ⟨hjn, hj2⟩ := hc
      have hji : (j : Int) < (n : Int) := by omega
      have hj2i : (j : Int) < 20 := by omega
      obtain ⟨x, hx⟩ : ∃ x, L[j]? = some x := ⟨_, List.getElem?_eq_getElem (by have := Hl.out; omega)⟩
      obtain ⟨bb, off, rfl, hbB, hpl⟩ := H.out.place anC_len (by decide) (by omega)
      have hp : ∀ i u, (anC x)[i]? = some u → wo.cell? ((⟨bb, off + j * 4, none⟩ : Addr).add i) = some u := fun i u hu => (HO.out.below.cell (by rw [add_block]; exact hbB)).trans (hpl j x hx i u hu)
      have HN : RowKit.Hid (L.take (j + 1) = (L.take j) ++ [x]) := Lib.hid (by rw [take_snoc_ L j x hx])
      clear hpl hbB hx
      obtain ⟨A3, c3, W3, hrun, ho3, hb3⟩ := pushA HO.out x (by omega)
      have HO3 := Lib.hid ho3
      clear ho3 hb3
      go_upto_region 6 with fail
      refine wp_region_lit ?_
      refine wl_read (v := ?_) (some 24) rfl (by rfl) ?_ ?_
      rotate_left
      · go_simp; (try with_reducible rfl)
      simp only [Act.put, List.setIfInBounds_toArray, List.set_cons_zero, List.set_cons_succ]
      refine wl_read (v := ?_) (some 25) rfl (by rfl) ?_ ?_
      rotate_left
      · go_simp; (try with_reducible rfl)
      simp only [Act.put, List.setIfInBounds_toArray, List.set_cons_zero, List.set_cons_succ]
      refine wl_read (v := ?_) (some 26) rfl (by rfl) ?_ ?_
      rotate_left
      · go_simp; (try with_reducible rfl)
      simp only [Act.put, List.setIfInBounds_toArray, List.set_cons_zero, List.set_cons_succ]
      refine wl_read (v := ?_) (some 27) rfl (by rfl) ?_ ?_
      rotate_left
      · go_simp; (try with_reducible rfl)
      simp only [Act.put, List.setIfInBounds_toArray, List.set_cons_zero, List.set_cons_succ]
      refine wl_load_at (some 28) rfl (by rfl) 27 (.tmp 27) rfl ⟨bb, off + j * 4, none⟩ rfl (anC x) _ hp Tryz.underlying27 rfl (by kernel_rfl) ?_
      simp only [Act.put, List.setIfInBounds_toArray, List.set_cons_zero, List.set_cons_succ]
      refine wl_buildSlice (some 29) rfl (by rfl) 22 27 1 #[(0, .tmp 28)] (by rfl) Tryz.underlying22 (anC x).toArray (by kernel_rfl) ?_
      simp only [Act.put, List.setIfInBounds_toArray, List.set_cons_zero, List.set_cons_succ]
      refine wl_run (some 30) rfl (by rfl) (exec_append (by rfl) (by rfl) (by rfl) hrun) ?_
      simp only [Act.put, List.setIfInBounds_toArray, List.set_cons_zero, List.set_cons_succ]
      clear hrun hp
      have HO5 : RowKit.Hid (Ow w lo 27 4 (.slice A3 ((j + 1)) c3) ((j + 1)) (rowsV anC (L.take (j + 1))) W3) := Lib.hid (by rw [HN.out]; exact HO3.out)
      clear HO3 HN HO
      go_wp2
      go_roundw
      case rel => exact ⟨j + 1, A3, c3, by omega, by omega, rfl, by go_num, HO5⟩
      case measure => simp [intOf]; omega
    · go_upto_region 4 with fail
      go_cut [21] (fun v z => v = .bool false ∧ z = wo)
      case first =>
        by_cases hjn : j < n
        · have hji : (j : Int) < (n : Int) := by omega
          have hj2i : ¬ (j : Int) < 20 := by omega
          go_wp2
          go_meet
          exact ⟨rfl, rfl⟩
        · have hji : ¬ (j : Int) < (n : Int) := by omega
          go_wp2
          go_meet
          exact ⟨rfl, rfl⟩
      case rest =>
        obtain ⟨rfl, hz⟩ := hcut
        have HRS : RowKit.Hid (Ow w lo 27 4 (.slice A2 (j) c2) (j) (rowsV anC (L.take j)) wc) := Lib.hid (by rw [hz]; exact HO.out)
        clear hz HO hc
        have hp20 : j ≤ 20 := by omega
        have HA1 : RowKit.Hid (∀ x ∈ L.take j, AnOk w x) := Lib.hid (fun x hx => HA.out x (List.mem_of_mem_take hx))
        have hT1 : (L.take j).length = j := by rw [List.length_take]; have := Hl.out; omega
        obtain ⟨T1, gT1⟩ : ∃ z, L.take j = z := ⟨_, rfl⟩
        rw [gT1] at HRS HA1 hT1
        have HT1 := Lib.hid hT1
        obtain ⟨p, gp⟩ : ∃ z, j = z := ⟨_, rfl⟩
        rw [gp] at HRS HT1 hp20 ⊢
        clear gp gT1 hT1
        have HO0 : RowKit.Hid (Ow w lo 27 4 (.slice A2 (p + 0) c2) (p + 0) (rowsV anC (T1 ++ M.take 0)) wc) := Lib.hid (by simpa using HRS.out)
        obtain ⟨A0, gA0⟩ : ∃ z, A2 = z := ⟨_, rfl⟩
        obtain ⟨c0, gc0⟩ : ∃ z, c2 = z := ⟨_, rfl⟩
        obtain ⟨wd, gwd⟩ : ∃ z, wc = z := ⟨_, rfl⟩
        rw [gA0, gc0, gwd] at HO0
        rw [gA0, gc0, gwd]
        clear HRS gA0 gc0 gwd hj hj20
        go_upto_region 9 with fail
        go_loopw [6, 9] (fun vs vi wr => ∃ (j : Nat) (A2 : Option Addr) (c2 : Nat), j ≤ m ∧ j ≤ 20 ∧ vs = .slice A2 (p + j) c2 ∧ vi = .int .i64 (j : Int) ∧ RowKit.Hid (Ow w lo 27 4 (.slice A2 (p + j) c2) (p + j) (rowsV anC (T1 ++ M.take j)) wr)) (fun _ vi _ => m - (intOf vi).toNat)
        case atStart => exact ⟨0, A0, c0, Nat.zero_le _, Nat.zero_le _, rfl, rfl, HO0⟩
        case round =>
          clear HO0
          obtain ⟨j, A2, c2, hj, hj20, rfl, rfl, HO⟩ := hrel
          obtain ⟨wo, gwo⟩ : ∃ z, wr = z := ⟨_, rfl⟩
          rw [gwo] at HO ⊢
          clear gwo
          by_cases hc : j < m ∧ j < 20
          · obtain ⟨hjn, hj2⟩ := hc
            have hji : (j : Int) < (m : Int) := by omega
            have hj2i : (j : Int) < 20 := by omega
            obtain ⟨x, hx⟩ : ∃ x, M[j]? = some x := ⟨_, List.getElem?_eq_getElem (by have := Hm.out; omega)⟩
            obtain ⟨bb, off, rfl, hbB, hpl⟩ := HM.out.place anC_len (by decide) (by omega)
            have hp : ∀ i u, (anC x)[i]? = some u → wo.cell? ((⟨bb, off + j * 4, none⟩ : Addr).add i) = some u := fun i u hu => (HO.out.below.cell (by rw [add_block]; exact hbB)).trans (hpl j x hx i u hu)
            have HN : RowKit.Hid (T1 ++ M.take (j + 1) = (T1 ++ M.take j) ++ [x]) := Lib.hid (by rw [take_snoc_ M j x hx, List.append_assoc])
            clear hpl hbB hx
            obtain ⟨A3, c3, W3, hrun, ho3, hb3⟩ := pushA HO.out x (by omega)
            have HO3 := Lib.hid ho3
            clear ho3 hb3
            go_upto_region 11 with fail
            refine wp_region_lit ?_
            refine wl_read (v := ?_) (some 43) rfl (by rfl) ?_ ?_
            rotate_left
            · go_simp; (try with_reducible rfl)
            simp only [Act.put, List.setIfInBounds_toArray, List.set_cons_zero, List.set_cons_succ]
            refine wl_read (v := ?_) (some 44) rfl (by rfl) ?_ ?_
            rotate_left
            · go_simp; (try with_reducible rfl)
            simp only [Act.put, List.setIfInBounds_toArray, List.set_cons_zero, List.set_cons_succ]
            refine wl_read (v := ?_) (some 45) rfl (by rfl) ?_ ?_
            rotate_left
            · go_simp; (try with_reducible rfl)
            simp only [Act.put, List.setIfInBounds_toArray, List.set_cons_zero, List.set_cons_succ]
            refine wl_read (v := ?_) (some 46) rfl (by rfl) ?_ ?_
            rotate_left
            · go_simp; (try with_reducible rfl)
            simp only [Act.put, List.setIfInBounds_toArray, List.set_cons_zero, List.set_cons_succ]
            refine wl_load_at (some 47) rfl (by rfl) 27 (.tmp 46) rfl ⟨bb, off + j * 4, none⟩ rfl (anC x) _ hp Tryz.underlying27 rfl (by kernel_rfl) ?_
            simp only [Act.put, List.setIfInBounds_toArray, List.set_cons_zero, List.set_cons_succ]
            refine wl_buildSlice (some 48) rfl (by rfl) 22 27 1 #[(0, .tmp 47)] (by rfl) Tryz.underlying22 (anC x).toArray (by kernel_rfl) ?_
            simp only [Act.put, List.setIfInBounds_toArray, List.set_cons_zero, List.set_cons_succ]
            refine wl_run (some 49) rfl (by rfl) (exec_append (by rfl) (by rfl) (by rfl) hrun) ?_
            simp only [Act.put, List.setIfInBounds_toArray, List.set_cons_zero, List.set_cons_succ]
            clear hrun hp
            have HO5 : RowKit.Hid (Ow w lo 27 4 (.slice A3 (p + (j + 1)) c3) (p + (j + 1)) (rowsV anC (T1 ++ M.take (j + 1))) W3) := Lib.hid (by rw [HN.out]; exact HO3.out)
            clear HO3 HN HO
            go_wp2
            go_roundw
            case rel => exact ⟨j + 1, A3, c3, by omega, by omega, rfl, by go_num, HO5⟩
            case measure => simp [intOf]; omega
          · go_upto_region 9 with fail
            go_cut [40] (fun v z => v = .bool false ∧ z = wo)
            case first =>
              by_cases hjn : j < m
              · have hji : (j : Int) < (m : Int) := by omega
                have hj2i : ¬ (j : Int) < 20 := by omega
                go_wp2
                go_meet
                exact ⟨rfl, rfl⟩
              · have hji : ¬ (j : Int) < (m : Int) := by omega
                go_wp2
                go_meet
                exact ⟨rfl, rfl⟩
            case rest =>
              obtain ⟨rfl, hz⟩ := hcut
              have HRS : RowKit.Hid (Ow w lo 27 4 (.slice A2 (p + j) c2) (p + j) (rowsV anC (T1 ++ M.take j)) wc) := Lib.hid (by rw [hz]; exact HO.out)
              clear hz HO hc
              have HA2 : RowKit.Hid (∀ x ∈ T1 ++ M.take j, AnOk w x) := Lib.hid (fun x hx => by
                rcases List.mem_append.1 hx with h | h
                · exact HA1.out x h
                · exact HMA.out x (List.mem_of_mem_take h))
              have hTl : (T1 ++ M.take j).length = p + j := by rw [List.length_append, List.length_take, HT1.out]; have := Hm.out; omega
              obtain ⟨T, gT⟩ : ∃ z, T1 ++ M.take j = z := ⟨_, rfl⟩
              obtain ⟨N, gN⟩ : ∃ z, p + j = z := ⟨_, rfl⟩
              have hpN : p ≤ N := by omega
              have hN40 : N ≤ 40 := by omega
              rw [gT] at HRS HA2 hTl
              rw [gN] at HRS hTl ⊢
              have HTl := Lib.hid hTl
              have HO3 : RowKit.Hid (Ow w lo 27 4 (.slice A2 N c2) N (rowsV anC (cutN T 0)) wc) := Lib.hid (by rw [cutN_zero]; exact HRS.out)
              obtain ⟨wd, gwd⟩ : ∃ z, wc = z := ⟨_, rfl⟩
              obtain ⟨A4, gA4⟩ : ∃ z, A2 = z := ⟨_, rfl⟩
              obtain ⟨c4, gc4⟩ : ∃ z, c2 = z := ⟨_, rfl⟩
              rw [gA4, gc4, gwd] at HO3
              rw [gA4, gc4, gwd]
              clear gT gN hTl HRS gwd gA4 gc4 hj hj20 HA1
              go_upto_region 14 with fail
              obtain ⟨S0, gS0⟩ : ∃ z, ({ data := #[] } : ByteArray) = z := ⟨_, rfl⟩
              have HS0 : RowKit.Hid (S0 = bS (showB ((T.take 0).map cutA))) := Lib.hid gS0.symm
              rw [gS0]
              clear gS0
              go_loopw [10, 11] (fun vs vi wr => ∃ (i : Nat) (S : ByteArray), i ≤ N ∧ vi = .int .i64 (i : Int) ∧ vs = .string S ∧ RowKit.Hid (S = bS (showB ((T.take i).map cutA))) ∧ RowKit.Hid (Ow w lo 27 4 (.slice A4 N c4) N (rowsV anC (cutN T i)) wr)) (fun _ vi _ => N - (intOf vi).toNat)
              case atStart => exact ⟨0, S0, Nat.zero_le _, rfl, rfl, HS0, HO3⟩
              case round =>
                clear HS0 HO3
                obtain ⟨i, S, hi, rfl, rfl, HS, HO⟩ := hrel
                obtain ⟨we, gwe⟩ : ∃ z, wr = z := ⟨_, rfl⟩
                rw [gwe] at HO ⊢
                clear gwe
                by_cases hin : i < N
                · have hiI : (i : Int) < (N : Int) := by omega
                  obtain ⟨x, hx⟩ : ∃ x, T[i]? = some x := ⟨_, List.getElem?_eq_getElem (by have := HTl.out; omega)⟩
                  have hok := HA2.out x (List.mem_of_getElem? hx)
                  have HNx : RowKit.Hid ((T.take (i + 1)).map cutA = (T.take i).map cutA ++ [cutA x]) := Lib.hid (map_next cutA hx)
                  have HAt : RowKit.Hid (((cutN T (i + 1)).drop i).take 1 = [cutA x]) := Lib.hid (cutN_at hx)
                  have HYo : RowKit.Hid (AnOk w (cutA x)) := Lib.hid hok.cutA
                  have HLn : RowKit.Hid ((showB ((T.take (i + 1)).map cutA)).length ≤ 100000) := Lib.hid (by
                    have h1 := showB_len (w := w) (X := (T.take (i + 1)).map cutA) (fun z hz => by
                      obtain ⟨y, hy, rfl⟩ := List.mem_map.1 hz
                      exact (HA2.out y (List.mem_of_mem_take hy)).cutA)
                    rw [List.length_map, List.length_take] at h1
                    omega)
                  have hs := hok.s
                  have hlc := hok.r.le
                  by_cases hx6 : 600 < x.l
                  · have hnx := cutN_next hx
                    obtain ⟨xk, xn, xm, xa, xl, xc, xb⟩ := x
                    dsimp only at hx6 hs hlc
                    rw [cutA_big hx6] at HNx HAt HYo hnx
                    obtain ⟨g, junk, e, hlo, hw, hc3r, hf3, ho3⟩ := own_poke (i := 3) (u := .slice xa 600 xc) (y := ⟨xk, xn, xm, xa, 600, xc, xb.take 600⟩) anC_len HO.out.own (cutN_get hx) hin (by decide) rfl
                    rw [hnx] at ho3
                    have hA4 : A4 = some ⟨g, 0, none⟩ := e
                    have hc3 : we.cell? ⟨g, i * 4 + 3, none⟩ = some (.slice xa xl xc) := hc3r
                    clear hc3r
                    have hx6i : (600 : Int) < (xl : Int) := by omega
                    have HO7 : RowKit.Hid (Ow w lo 27 4 (.slice A4 N c4) N (rowsV anC (cutN T (i + 1))) (we.setCell ⟨g, i * 4 + 3, none⟩ (.slice xa 600 xc))) := Lib.hid ⟨ho3, HO.out.below.setCell (p := ⟨g, i * 4 + 3, none⟩) (Nat.le_trans HO.out.lo hlo) _, HO.out.lo, by simpa [World.setCell] using HO.out.hi⟩
                    subst hA4
                    clear hx hok hnx hw ho3 hlo e HO
                    go_upto_region 17 with fail
                    refine wp_region_lit ?_
                    refine wl_read (v := ?_) (some 63) rfl (by rfl) ?_ ?_
                    rotate_left
                    · go_simp; (try with_reducible rfl)
                    simp only [Act.put, List.setIfInBounds_toArray, List.set_cons_zero, List.set_cons_succ]
                    refine wl_read (v := ?_) (some 64) rfl (by rfl) ?_ ?_
                    rotate_left
                    · go_simp; (try with_reducible rfl)
                    simp only [Act.put, List.setIfInBounds_toArray, List.set_cons_zero, List.set_cons_succ]
                    refine wl_read (v := ?_) (some 65) rfl (by rfl) ?_ ?_
                    rotate_left
                    · go_simp; (try with_reducible rfl)
                    simp only [Act.put, List.setIfInBounds_toArray, List.set_cons_zero, List.set_cons_succ]
                    refine wl_read (v := ?_) (some 66) rfl (by rfl) ?_ ?_
                    rotate_left
                    · go_simp; (try with_reducible rfl)
                    simp only [Act.put, List.setIfInBounds_toArray, List.set_cons_zero, List.set_cons_succ]
                    refine wl_read (v := ?_) (some 67) rfl (by rfl) ?_ ?_
                    rotate_left
                    · go_simp; (try with_reducible rfl)
                    simp only [Act.put, List.setIfInBounds_toArray, List.set_cons_zero, List.set_cons_succ]
                    refine wl_read (v := ?_) (some 68) rfl (by rfl) ?_ ?_
                    rotate_left
                    · go_simp; (try with_reducible rfl)
                    simp only [Act.put, List.setIfInBounds_toArray, List.set_cons_zero, List.set_cons_succ]
                    refine wl_read (v := ?_) (some 69) rfl (by rfl) ?_ ?_
                    rotate_left
                    · go_simp; (try with_reducible rfl)
                    simp only [Act.put, List.setIfInBounds_toArray, List.set_cons_zero, List.set_cons_succ]
                    refine wl_read (some 70) rfl (by rfl) (exec_slice_high 25 5 (.tmp 69) (.const (.int .i64 600)) rfl Tryz.underlying25 (s := 1) (by kernel_rfl) rfl (k := 600) rfl (by omega)) ?_
                    simp only [Act.put, List.setIfInBounds_toArray, List.set_cons_zero, List.set_cons_succ]
                    go_upto_region 18 with fail
                    clear hc3 hf3
                    generalize World.setCell we _ _ = W7 at HO7 ⊢
                    have hNc := (own_rds HO7.out.own).le
                    have hrd := (own_rds HO7.out.own).low_ (k := i) (by omega)
                    obtain ⟨A5, hA5⟩ : ∃ z, (if c4 = i then (some (⟨g, 0, none⟩ : Addr)) else (some (⟨g, 0, none⟩ : Addr)).map (·.add (i * 4))) = z := ⟨_, rfl⟩
                    rw [hA5] at hrd
                    have hrd1 := hrd.take_ 1 (by omega)
                    rw [← rowsV_drop anC anC_len, ← rowsV_take anC anC_len, HAt.out] at hrd1
                    have HRd := Lib.hid hrd1
                    have HBx := Lib.hid HO7.out.below
                    have HShw := Lib.hid (show_any A5 1 (c4 - i) [⟨xk, xn, xm, xa, 600, xc, xb.take 600⟩] W7 hrd1 (fun z hz => by rw [List.mem_singleton] at hz; rw [hz]; exact HYo.out.bl HBx.out) (by decide) (HT.out.bl HBx.out))
                    obtain ⟨i1, gi1⟩ : ∃ z, i + 1 = z := ⟨_, rfl⟩
                    have e1 : IntKind.i64.wrap ((i : Int) + 1) = (i1 : Int) := by rw [show (i : Int) + 1 = (i1 : Int) by omega]; exact IntWalk.i64_in _ (by omega)
                    have hadd : ∀ W, (Op.stringOp .add S (bS (showB [⟨xk, xn, xm, xa, 600, xc, xb.take 600⟩]))).run Tryz.prog W = .ok (.string (bS (showB ((T.take i1).map cutA)))) W := fun W => by
                      rw [HS.out]
                      exact add_str _ _ _ (by rw [← showB_app, ← gi1, HNx.out]) (by have := HLn.out; rw [gi1] at this; exact this) W
                    obtain ⟨tY, gtY⟩ : ∃ z, bS (showB [⟨xk, xn, xm, xa, 600, xc, xb.take 600⟩]) = z := ⟨_, rfl⟩
                    rw [gtY] at HShw hadd
                    obtain ⟨S1, gS1⟩ : ∃ z, bS (showB ((T.take i1).map cutA)) = z := ⟨_, rfl⟩
                    rw [gS1] at hadd
                    have HS1 : RowKit.Hid (S1 = bS (showB ((T.take (i + 1)).map cutA))) := Lib.hid (by rw [gi1]; exact gS1.symm)
                    have Hi1 := Lib.hid gi1
                    clear hrd hrd1 HRd gtY gS1 HNx HLn HAt HYo HS HBx
                    go_upto_region 18 with fail
                    refine wp_region_lit ?_
                    refine wl_read (v := ?_) (some 73) rfl (by rfl) ?_ ?_
                    rotate_left
                    · go_simp; (try with_reducible rfl)
                    simp only [Act.put, List.setIfInBounds_toArray, List.set_cons_zero, List.set_cons_succ]
                    refine wl_read (v := ?_) (some 74) rfl (by rfl) ?_ ?_
                    rotate_left
                    · go_simp; (try with_reducible rfl)
                    simp only [Act.put, List.setIfInBounds_toArray, List.set_cons_zero, List.set_cons_succ]
                    refine wl_read (v := ?_) (some 75) rfl (by rfl) ?_ ?_
                    rotate_left
                    · go_simp; (try with_reducible rfl)
                    simp only [Act.put, List.setIfInBounds_toArray, List.set_cons_zero, List.set_cons_succ]
                    refine wl_read (v := ?_) (some 76) rfl (by rfl) ?_ ?_
                    rotate_left
                    · go_simp; (try with_reducible rfl)
                    simp only [Act.put, List.setIfInBounds_toArray, List.set_cons_zero, List.set_cons_succ]
                    refine wl_read (v := ?_) (some 77) rfl (by rfl) ?_ ?_
                    rotate_left
                    · go_simp; (try with_reducible rfl)
                    simp only [Act.put, List.setIfInBounds_toArray, List.set_cons_zero, List.set_cons_succ]
                    refine wl_read (some 78) rfl (by rfl) (exec_slice_as 22 27 (.tmp 74) (.tmp 75) (.tmp 77) rfl Tryz.underlying22 (s := 4) (by kernel_rfl) (A := (some (⟨g, 0, none⟩ : Addr))) (n := N) (c := c4) (i := i) (k := i1) rfl rfl rfl (by omega) (by omega) hA5 (m := 1) (by omega) rfl) ?_
                    simp only [Act.put, List.setIfInBounds_toArray, List.set_cons_zero, List.set_cons_succ]
                    clear hA5
                    go_wp2_with (go_at_call 6; refine HShw.out.mono ?_; rintro e w6 ⟨rfl, hb6⟩; have HO6 := Lib.hid (HO7.out.up hb6); clear hb6 HShw)
                    go_roundw
                    case rel => exact ⟨i + 1, S1, by omega, by go_num, rfl, HS1, by first | exact HO6 | (rw [Hi1.out]; exact HO6)⟩
                    case measure => simp [intOf]; omega
                  · have hsame := cutN_same hx (cutA_small hx6)
                    have hcx := cutA_small hx6
                    obtain ⟨xk, xn, xm, xa, xl, xc, xb⟩ := x
                    dsimp only at hx6 hs hlc
                    rw [hcx] at HNx HAt HYo
                    obtain ⟨g, junk, e, hlo, hw, hc3r, hf3, ho3⟩ := own_poke (i := 3) (u := .slice xa xl xc) (y := ⟨xk, xn, xm, xa, xl, xc, xb⟩) anC_len HO.out.own (cutN_get hx) hin (by decide) rfl
                    have hA4 : A4 = some ⟨g, 0, none⟩ := e
                    have hc3 : we.cell? ⟨g, i * 4 + 3, none⟩ = some (.slice xa xl xc) := hc3r
                    have hx6i : ¬ (600 : Int) < (xl : Int) := by omega
                    have HO7 : RowKit.Hid (Ow w lo 27 4 (.slice A4 N c4) N (rowsV anC (cutN T (i + 1))) we) := Lib.hid (by rw [hsame]; exact HO.out)
                    subst hA4
                    clear hx hok hw ho3 hlo e HO hc3r hcx hsame hf3
                    go_upto_region 18 with fail
                    clear hc3
                    have hNc := (own_rds HO7.out.own).le
                    have hrd := (own_rds HO7.out.own).low_ (k := i) (by omega)
                    obtain ⟨A5, hA5⟩ : ∃ z, (if c4 = i then (some (⟨g, 0, none⟩ : Addr)) else (some (⟨g, 0, none⟩ : Addr)).map (·.add (i * 4))) = z := ⟨_, rfl⟩
                    rw [hA5] at hrd
                    have hrd1 := hrd.take_ 1 (by omega)
                    rw [← rowsV_drop anC anC_len, ← rowsV_take anC anC_len, HAt.out] at hrd1
                    have HRd := Lib.hid hrd1
                    have HBx := Lib.hid HO7.out.below
                    have HShw := Lib.hid (show_any A5 1 (c4 - i) [⟨xk, xn, xm, xa, xl, xc, xb⟩] we hrd1 (fun z hz => by rw [List.mem_singleton] at hz; rw [hz]; exact HYo.out.bl HBx.out) (by decide) (HT.out.bl HBx.out))
                    obtain ⟨i1, gi1⟩ : ∃ z, i + 1 = z := ⟨_, rfl⟩
                    have e1 : IntKind.i64.wrap ((i : Int) + 1) = (i1 : Int) := by rw [show (i : Int) + 1 = (i1 : Int) by omega]; exact IntWalk.i64_in _ (by omega)
                    have hadd : ∀ W, (Op.stringOp .add S (bS (showB [⟨xk, xn, xm, xa, xl, xc, xb⟩]))).run Tryz.prog W = .ok (.string (bS (showB ((T.take i1).map cutA)))) W := fun W => by
                      rw [HS.out]
                      exact add_str _ _ _ (by rw [← showB_app, ← gi1, HNx.out]) (by have := HLn.out; rw [gi1] at this; exact this) W
                    obtain ⟨tY, gtY⟩ : ∃ z, bS (showB [⟨xk, xn, xm, xa, xl, xc, xb⟩]) = z := ⟨_, rfl⟩
                    rw [gtY] at HShw hadd
                    obtain ⟨S1, gS1⟩ : ∃ z, bS (showB ((T.take i1).map cutA)) = z := ⟨_, rfl⟩
                    rw [gS1] at hadd
                    have HS1 : RowKit.Hid (S1 = bS (showB ((T.take (i + 1)).map cutA))) := Lib.hid (by rw [gi1]; exact gS1.symm)
                    have Hi1 := Lib.hid gi1
                    clear hrd hrd1 HRd gtY gS1 HNx HLn HAt HYo HS HBx
                    go_upto_region 18 with fail
                    refine wp_region_lit ?_
                    refine wl_read (v := ?_) (some 73) rfl (by rfl) ?_ ?_
                    rotate_left
                    · go_simp; (try with_reducible rfl)
                    simp only [Act.put, List.setIfInBounds_toArray, List.set_cons_zero, List.set_cons_succ]
                    refine wl_read (v := ?_) (some 74) rfl (by rfl) ?_ ?_
                    rotate_left
                    · go_simp; (try with_reducible rfl)
                    simp only [Act.put, List.setIfInBounds_toArray, List.set_cons_zero, List.set_cons_succ]
                    refine wl_read (v := ?_) (some 75) rfl (by rfl) ?_ ?_
                    rotate_left
                    · go_simp; (try with_reducible rfl)
                    simp only [Act.put, List.setIfInBounds_toArray, List.set_cons_zero, List.set_cons_succ]
                    refine wl_read (v := ?_) (some 76) rfl (by rfl) ?_ ?_
                    rotate_left
                    · go_simp; (try with_reducible rfl)
                    simp only [Act.put, List.setIfInBounds_toArray, List.set_cons_zero, List.set_cons_succ]
                    refine wl_read (v := ?_) (some 77) rfl (by rfl) ?_ ?_
                    rotate_left
                    · go_simp; (try with_reducible rfl)
                    simp only [Act.put, List.setIfInBounds_toArray, List.set_cons_zero, List.set_cons_succ]
                    refine wl_read (some 78) rfl (by rfl) (exec_slice_as 22 27 (.tmp 74) (.tmp 75) (.tmp 77) rfl Tryz.underlying22 (s := 4) (by kernel_rfl) (A := (some (⟨g, 0, none⟩ : Addr))) (n := N) (c := c4) (i := i) (k := i1) rfl rfl rfl (by omega) (by omega) hA5 (m := 1) (by omega) rfl) ?_
                    simp only [Act.put, List.setIfInBounds_toArray, List.set_cons_zero, List.set_cons_succ]
                    clear hA5
                    go_wp2_with (go_at_call 6; refine HShw.out.mono ?_; rintro e w6 ⟨rfl, hb6⟩; have HO6 := Lib.hid (HO7.out.up hb6); clear hb6 HShw)
                    go_roundw
                    case rel => exact ⟨i + 1, S1, by omega, by go_num, rfl, HS1, by first | exact HO6 | (rw [Hi1.out]; exact HO6)⟩
                    case measure => simp [intOf]; omega
                · obtain rfl : N = i := by omega
                  have hfull := cutN_all T
                  rw [HTl.out] at hfull
                  have HOf := Lib.hid HO.out
                  rw [hfull] at HOf
                  have HMT : RowKit.Hid (∀ x ∈ T.map cutA, AnOk w x) := Lib.hid (fun x hx => by
                    obtain ⟨y, hy, rfl⟩ := List.mem_map.1 hx
                    exact (HA2.out y hy).cutA)
                  have HS9 : RowKit.Hid (S = bS (showB (T.map cutA))) := Lib.hid (by
                    have := HS.out
                    rwa [List.take_of_length_le (by have := HTl.out; omega)] at this)
                  clear hi hin
                  obtain ⟨V, gV⟩ : ∃ z, T.map cutA = z := ⟨_, rfl⟩
                  rw [gV] at HOf HMT HS9
                  have hb := HOf.out.below
                  have hrd := own_rds HOf.out.own
                  have hNc := hrd.le
                  have hrdp := hrd.take_ p (by omega)
                  rw [← rowsV_take anC anC_len] at hrdp
                  have hrdl := hrd.low_ (k := p) (by omega)
                  rw [← rowsV_drop anC anC_len] at hrdl
                  obtain ⟨A5, hA5⟩ : ∃ z, (if c4 = p then A4 else A4.map (·.add (p * 4))) = z := ⟨_, rfl⟩
                  rw [hA5] at hrdl
                  have bl : ∀ w', Kept Nil_ we.drew w' → Below we.heap.size we w' := fun w' h => (Below.refl _ we).drew.trans (h.below (Nat.le_refl _) (fun _ _ q => q))
                  have ok : ∀ w', Kept Nil_ we.drew w' → ∀ x ∈ V, AnOk w' x := fun w' h x hx => (HMT.out x hx).bl (hb.trans ((bl w' h).mono hb.size))
                  have tb : ∀ w', Kept Nil_ we.drew w' → Tb w' := fun w' h => HT.out.bl (hb.trans ((bl w' h).mono hb.size))
                  have HC1 := Lib.hid (fun w' (h : Kept Nil_ we.drew w') => show_any A4 N c4 V w' (hrd.bl (bl w' h)) (ok w' h) (by omega) (tb w' h))
                  have HC2 := Lib.hid (fun w' (h : Kept Nil_ we.drew w') => show_any A4 p c4 (V.take p) w' (hrdp.bl (bl w' h)) (fun x hx => ok w' h x (List.mem_of_mem_take hx)) (by omega) (tb w' h))
                  have HC3 := Lib.hid (fun w' (h : Kept Nil_ we.drew w') => show_any A5 (N - p) (c4 - p) (V.drop p) w' (hrdl.bl (bl w' h)) (fun x hx => ok w' h x (List.mem_of_mem_drop hx)) (by omega) (tb w' h))
                  have HC4 : RowKit.Hid (∀ w', Kept Nil_ we.drew w' → Calls Tryz.prog 6 #[.slice none 0 0] w' fun e w'' => e = .returned (.string { data := #[] }) ∧ Below w'.heap.size w' w'') := Lib.hid (fun w' h => show_any none 0 0 [] w' (rds_nil w' _ 4) (fun _ q => by cases q) (by decide) (tb w' h))
                  have hV : V.length = N := by rw [← gV, List.length_map, HTl.out]
                  have hlV : (showB V).length ≤ 100000 := by
                    have h1 := showB_len (w := w) (X := V) HMT.out
                    omega
                  have hadd : ∀ W, (Op.stringOp .add (bS (showB (V.take p))) (bS (showB (V.drop p)))).run Tryz.prog W = .ok (.string (bS (showB V))) W := fun W => add_str _ _ _ (by rw [← showB_app, List.take_append_drop]) hlV W
                  have hS := HS9.out
                  obtain ⟨t, gt⟩ : ∃ z, bS (showB V) = z := ⟨_, rfl⟩
                  obtain ⟨t1, gt1⟩ : ∃ z, bS (showB (V.take p)) = z := ⟨_, rfl⟩
                  obtain ⟨t2, gt2⟩ : ∃ z, bS (showB (V.drop p)) = z := ⟨_, rfl⟩
                  rw [gt] at HC1 hadd hS
                  rw [gt1] at HC2 hadd
                  rw [gt2] at HC3 hadd
                  subst hS
                  have hq : (S.toList == S.toList) = true := by simp
                  have hq0 : (({ data := #[] } : ByteArray).toList == ({ data := #[] } : ByteArray).toList) = true := by simp
                  have HBf := Lib.hid hb
                  clear HS HO HOf HMT HS9 gV hb hrd hrdp hrdl bl ok tb hV hlV gt gt1 gt2 hfull
                  go_upto_region 19 with fail
                  refine wp_region_reg (Nil_) (by kernel_rfl) ?_
                  apply wpR_next 0 (some 81)
                  · simp only [List.getElem?_toArray, List.getElem?_cons_succ, List.getElem?_cons_zero]; exact rfl
                  · rfl
                  · kernel_rfl
                  · kernel_rfl
                  · kernel_rfl
                  · exact fun _ _ _ _ h => h
                  apply Exists.intro
                  apply And.intro
                  · apply yr_run; rfl; intro w' hw'; go_simp; (try with_reducible rfl)
                  simp only [Act.put, List.setIfInBounds_toArray, List.set_cons_zero, List.set_cons_succ]
                  apply wpR_next 1 (some 82)
                  · simp only [List.getElem?_toArray, List.getElem?_cons_succ, List.getElem?_cons_zero]; exact rfl
                  · rfl
                  · kernel_rfl
                  · kernel_rfl
                  · kernel_rfl
                  · exact fun _ _ _ _ h => h
                  apply Exists.intro
                  apply And.intro
                  · apply yr_run; rfl; intro w' hw'; go_simp; (try with_reducible rfl)
                  simp only [Act.put, List.setIfInBounds_toArray, List.set_cons_zero, List.set_cons_succ]
                  apply wpR_next 2 (some 83)
                  · simp only [List.getElem?_toArray, List.getElem?_cons_succ, List.getElem?_cons_zero]; exact rfl
                  · rfl
                  · kernel_rfl
                  · kernel_rfl
                  · kernel_rfl
                  · exact fun _ _ _ _ h => h
                  apply Exists.intro
                  apply And.intro
                  · apply yr_run; rfl; intro w' hw'; go_simp; (try with_reducible rfl)
                  simp only [Act.put, List.setIfInBounds_toArray, List.set_cons_zero, List.set_cons_succ]
                  apply wpR_next 3 (some 84)
                  · simp only [List.getElem?_toArray, List.getElem?_cons_succ, List.getElem?_cons_zero]; exact rfl
                  · rfl
                  · kernel_rfl
                  · kernel_rfl
                  · kernel_rfl
                  · exact fun _ _ _ _ h => h
                  apply Exists.intro
                  apply And.intro
                  · apply yr_call; rfl; rotate_left; intro w' hw'; exact HC1.out w' hw'; intro w'; go_simp
                  simp only [Act.put, List.setIfInBounds_toArray, List.set_cons_zero, List.set_cons_succ]
                  apply wpR_next 4 (some 85)
                  · simp only [List.getElem?_toArray, List.getElem?_cons_succ, List.getElem?_cons_zero]; exact rfl
                  · rfl
                  · kernel_rfl
                  · kernel_rfl
                  · kernel_rfl
                  · exact fun _ _ _ _ h => h
                  apply Exists.intro
                  apply And.intro
                  · apply yr_run; rfl; intro w' hw'; go_simp; (try with_reducible rfl)
                  simp only [Act.put, List.setIfInBounds_toArray, List.set_cons_zero, List.set_cons_succ]
                  apply wpR_next 5 (some 86)
                  · simp only [List.getElem?_toArray, List.getElem?_cons_succ, List.getElem?_cons_zero]; exact rfl
                  · rfl
                  · kernel_rfl
                  · kernel_rfl
                  · kernel_rfl
                  · exact fun _ _ _ _ h => h
                  apply Exists.intro
                  apply And.intro
                  · apply yr_run; rfl; intro w' hw'; go_simp; (try with_reducible rfl)
                  simp only [Act.put, List.setIfInBounds_toArray, List.set_cons_zero, List.set_cons_succ]
                  apply wpR_next 6 (some 87)
                  · simp only [List.getElem?_toArray, List.getElem?_cons_succ, List.getElem?_cons_zero]; exact rfl
                  · rfl
                  · kernel_rfl
                  · kernel_rfl
                  · kernel_rfl
                  · exact fun _ _ _ _ h => h
                  apply Exists.intro
                  apply And.intro
                  · apply yr_run; rfl; intro w' hw'; go_simp; (try with_reducible rfl)
                  simp only [Act.put, List.setIfInBounds_toArray, List.set_cons_zero, List.set_cons_succ]
                  apply wpR_next 7 (some 88)
                  · simp only [List.getElem?_toArray, List.getElem?_cons_succ, List.getElem?_cons_zero]; exact rfl
                  · rfl
                  · kernel_rfl
                  · kernel_rfl
                  · kernel_rfl
                  · exact fun _ _ _ _ h => h
                  apply Exists.intro
                  apply And.intro
                  · apply yr_run; rfl; intro w' hw'; go_simp; (try with_reducible rfl)
                  simp only [Act.put, List.setIfInBounds_toArray, List.set_cons_zero, List.set_cons_succ]
                  apply wpR_next 8 (some 89)
                  · simp only [List.getElem?_toArray, List.getElem?_cons_succ, List.getElem?_cons_zero]; exact rfl
                  · rfl
                  · kernel_rfl
                  · kernel_rfl
                  · kernel_rfl
                  · exact fun _ _ _ _ h => h
                  apply Exists.intro
                  apply And.intro
                  · apply yr_run; rfl; intro w' hw'; go_simp; (try with_reducible rfl)
                  simp only [Act.put, List.setIfInBounds_toArray, List.set_cons_zero, List.set_cons_succ]
                  apply wpR_next 9 (some 90)
                  · simp only [List.getElem?_toArray, List.getElem?_cons_succ, List.getElem?_cons_zero]; exact rfl
                  · rfl
                  · kernel_rfl
                  · kernel_rfl
                  · kernel_rfl
                  · exact fun _ _ _ _ h => h
                  apply Exists.intro
                  apply And.intro
                  · apply yr_call; rfl; rotate_left; intro w' hw'; exact HC1.out w' hw'; intro w'; go_simp
                  simp only [Act.put, List.setIfInBounds_toArray, List.set_cons_zero, List.set_cons_succ]
                  apply wpR_next 10 (some 91)
                  · simp only [List.getElem?_toArray, List.getElem?_cons_succ, List.getElem?_cons_zero]; exact rfl
                  · rfl
                  · kernel_rfl
                  · kernel_rfl
                  · kernel_rfl
                  · exact fun _ _ _ _ h => h
                  apply Exists.intro
                  apply And.intro
                  · apply yr_run; rfl; intro w' hw'; go_simp; (try with_reducible rfl)
                  simp only [Act.put, List.setIfInBounds_toArray, List.set_cons_zero, List.set_cons_succ]
                  apply wpR_next 11 (some 92)
                  · simp only [List.getElem?_toArray, List.getElem?_cons_succ, List.getElem?_cons_zero]; exact rfl
                  · rfl
                  · kernel_rfl
                  · kernel_rfl
                  · kernel_rfl
                  · exact fun _ _ _ _ h => h
                  apply Exists.intro
                  apply And.intro
                  · apply yr_run; rfl; intro w' hw'; go_simp; (try with_reducible rfl)
                  simp only [Act.put, List.setIfInBounds_toArray, List.set_cons_zero, List.set_cons_succ]
                  apply wpR_next 12 (some 93)
                  · simp only [List.getElem?_toArray, List.getElem?_cons_succ, List.getElem?_cons_zero]; exact rfl
                  · rfl
                  · kernel_rfl
                  · kernel_rfl
                  · kernel_rfl
                  · exact fun _ _ _ _ h => h
                  apply Exists.intro
                  apply And.intro
                  · exact yr_run (by rfl) (fun w' _ => exec_slice_high 22 27 (.tmp 91) (.tmp 92) rfl Tryz.underlying22 (s := 4) (by kernel_rfl) rfl (k := p) rfl (by omega))
                  simp only [Act.put, List.setIfInBounds_toArray, List.set_cons_zero, List.set_cons_succ]
                  apply wpR_next 13 (some 94)
                  · simp only [List.getElem?_toArray, List.getElem?_cons_succ, List.getElem?_cons_zero]; exact rfl
                  · rfl
                  · kernel_rfl
                  · kernel_rfl
                  · kernel_rfl
                  · exact fun _ _ _ _ h => h
                  apply Exists.intro
                  apply And.intro
                  · apply yr_call; rfl; rotate_left; intro w' hw'; exact HC2.out w' hw'; intro w'; go_simp
                  simp only [Act.put, List.setIfInBounds_toArray, List.set_cons_zero, List.set_cons_succ]
                  apply wpR_next 14 (some 95)
                  · simp only [List.getElem?_toArray, List.getElem?_cons_succ, List.getElem?_cons_zero]; exact rfl
                  · rfl
                  · kernel_rfl
                  · kernel_rfl
                  · kernel_rfl
                  · exact fun _ _ _ _ h => h
                  apply Exists.intro
                  apply And.intro
                  · apply yr_run; rfl; intro w' hw'; go_simp; (try with_reducible rfl)
                  simp only [Act.put, List.setIfInBounds_toArray, List.set_cons_zero, List.set_cons_succ]
                  apply wpR_next 15 (some 96)
                  · simp only [List.getElem?_toArray, List.getElem?_cons_succ, List.getElem?_cons_zero]; exact rfl
                  · rfl
                  · kernel_rfl
                  · kernel_rfl
                  · kernel_rfl
                  · exact fun _ _ _ _ h => h
                  apply Exists.intro
                  apply And.intro
                  · apply yr_run; rfl; intro w' hw'; go_simp; (try with_reducible rfl)
                  simp only [Act.put, List.setIfInBounds_toArray, List.set_cons_zero, List.set_cons_succ]
                  apply wpR_next 16 (some 97)
                  · simp only [List.getElem?_toArray, List.getElem?_cons_succ, List.getElem?_cons_zero]; exact rfl
                  · rfl
                  · kernel_rfl
                  · kernel_rfl
                  · kernel_rfl
                  · exact fun _ _ _ _ h => h
                  apply Exists.intro
                  apply And.intro
                  · exact yr_run (by rfl) (fun w' _ => exec_slice_low_as 22 27 (.tmp 95) (.tmp 96) rfl Tryz.underlying22 (s := 4) (by kernel_rfl) (A := A4) (n := N) (c := c4) (k := p) rfl rfl (by omega) hA5 rfl rfl)
                  simp only [Act.put, List.setIfInBounds_toArray, List.set_cons_zero, List.set_cons_succ]
                  apply wpR_next 17 (some 98)
                  · simp only [List.getElem?_toArray, List.getElem?_cons_succ, List.getElem?_cons_zero]; exact rfl
                  · rfl
                  · kernel_rfl
                  · kernel_rfl
                  · kernel_rfl
                  · exact fun _ _ _ _ h => h
                  apply Exists.intro
                  apply And.intro
                  · apply yr_call; rfl; rotate_left; intro w' hw'; exact HC3.out w' hw'; intro w'; go_simp
                  simp only [Act.put, List.setIfInBounds_toArray, List.set_cons_zero, List.set_cons_succ]
                  apply wpR_next 18 (some 99)
                  · simp only [List.getElem?_toArray, List.getElem?_cons_succ, List.getElem?_cons_zero]; exact rfl
                  · rfl
                  · kernel_rfl
                  · kernel_rfl
                  · kernel_rfl
                  · exact fun _ _ _ _ h => h
                  apply Exists.intro
                  apply And.intro
                  · apply yr_run; rfl; intro w' hw'; go_simp; (try with_reducible rfl)
                  simp only [Act.put, List.setIfInBounds_toArray, List.set_cons_zero, List.set_cons_succ]
                  apply wpR_next 19 (some 100)
                  · simp only [List.getElem?_toArray, List.getElem?_cons_succ, List.getElem?_cons_zero]; exact rfl
                  · rfl
                  · kernel_rfl
                  · kernel_rfl
                  · kernel_rfl
                  · exact fun _ _ _ _ h => h
                  apply Exists.intro
                  apply And.intro
                  · apply yr_run; rfl; intro w' hw'; go_simp; (try with_reducible rfl)
                  simp only [Act.put, List.setIfInBounds_toArray, List.set_cons_zero, List.set_cons_succ]
                  apply wpR_next 20 (some 101)
                  · simp only [List.getElem?_toArray, List.getElem?_cons_succ, List.getElem?_cons_zero]; exact rfl
                  · rfl
                  · kernel_rfl
                  · kernel_rfl
                  · kernel_rfl
                  · exact fun _ _ _ _ h => h
                  apply Exists.intro
                  apply And.intro
                  · apply yr_run; rfl; intro w' hw'; go_simp; (try with_reducible rfl)
                  simp only [Act.put, List.setIfInBounds_toArray, List.set_cons_zero, List.set_cons_succ]
                  apply wpR_next 21 (some 102)
                  · simp only [List.getElem?_toArray, List.getElem?_cons_succ, List.getElem?_cons_zero]; exact rfl
                  · rfl
                  · kernel_rfl
                  · kernel_rfl
                  · kernel_rfl
                  · exact fun _ _ _ _ h => h
                  apply Exists.intro
                  apply And.intro
                  · apply yr_run; rfl; intro w' hw'; go_simp; (try with_reducible rfl)
                  simp only [Act.put, List.setIfInBounds_toArray, List.set_cons_zero, List.set_cons_succ]
                  apply wpR_next 22 (some 103)
                  · simp only [List.getElem?_toArray, List.getElem?_cons_succ, List.getElem?_cons_zero]; exact rfl
                  · rfl
                  · kernel_rfl
                  · kernel_rfl
                  · kernel_rfl
                  · exact fun _ _ _ _ h => h
                  apply Exists.intro
                  apply And.intro
                  · apply yr_call; rfl; rotate_left; intro w' hw'; exact HC4.out w' hw'; intro w'; go_simp
                  simp only [Act.put, List.setIfInBounds_toArray, List.set_cons_zero, List.set_cons_succ]
                  apply wpR_next 23 (some 104)
                  · simp only [List.getElem?_toArray, List.getElem?_cons_succ, List.getElem?_cons_zero]; exact rfl
                  · rfl
                  · kernel_rfl
                  · kernel_rfl
                  · kernel_rfl
                  · exact fun _ _ _ _ h => h
                  apply Exists.intro
                  apply And.intro
                  · apply yr_run; rfl; intro w' hw'; go_simp; (try with_reducible rfl)
                  simp only [Act.put, List.setIfInBounds_toArray, List.set_cons_zero, List.set_cons_succ]
                  apply wpR_next 24 (some 105)
                  · simp only [List.getElem?_toArray, List.getElem?_cons_succ, List.getElem?_cons_zero]; exact rfl
                  · rfl
                  · kernel_rfl
                  · kernel_rfl
                  · kernel_rfl
                  · exact fun _ _ _ _ h => h
                  apply Exists.intro
                  apply And.intro
                  · apply yr_run; rfl; intro w' hw'; go_simp; (try with_reducible rfl)
                  simp only [Act.put, List.setIfInBounds_toArray, List.set_cons_zero, List.set_cons_succ]
                  apply wpR_next 25 (some 4)
                  · simp only [List.getElem?_toArray, List.getElem?_cons_succ, List.getElem?_cons_zero]; exact rfl
                  · rfl
                  · kernel_rfl
                  · kernel_rfl
                  · kernel_rfl
                  · exact fun _ _ _ _ h => h
                  apply Exists.intro
                  apply And.intro
                  · apply yr_run; rfl; intro w' hw'; go_simp; (try with_reducible rfl)
                  simp only [Act.put, List.setIfInBounds_toArray, List.set_cons_zero, List.set_cons_succ]
                  refine wpR_done (by kernel_rfl) ?_ _
                  intro w8 hw8
                  have HB8 := Lib.hid (HBf.out.trans (((Below.refl _ we).drew.trans hw8).mono HBf.out.size))
                  clear hw8 HC1 HC2 HC3 HC4
                  go_wp2
                  go_ret
                  exact ⟨rfl, HB8.out⟩
end Go.Proofs.YtinhenmafjoaoaaGreatDoor
