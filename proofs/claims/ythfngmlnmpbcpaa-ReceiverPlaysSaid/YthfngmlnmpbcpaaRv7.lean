/- The law ReceiverTurns. -/
import Derived.Test.YthfngmlnmpbcpaaRv6
namespace Go.Proofs.Ythfngmlnmpbcpaa
open Go.RowKit Go.Maps
set_option linter.unusedSimpArgs false
set_option linter.unusedVariables false

/-- A round's beginning: what is held are numbers below 20, each with itself. -/
structure TuIn (w : World) (g win bm k got : Nat) (wr : World) (n : Nat) (D : DataW Value) (HL : List HE) : Prop where
  rv : RvIn w.heap.size wr g win got bm n D HL
  below : Below w.heap.size w wr
  gk : got ≤ 65 * k
  nk : n ≤ k
  left : ∀ e ∈ HL, got + 1 < e.1
  self : ∀ e ∈ HL, e.1 < 20 ∧ e.2.2 = [e.1]
theorem TuIn.down {w wr W : World} {g win bm k got n : Nat} {D : DataW Value} {HL : List HE} (h : TuIn w g win bm k got wr n D HL) (hb : Below wr.heap.size wr W) : TuIn w g win bm k got W n D HL := ⟨h.rv.below hb, bel_bl h.below hb, h.gk, h.nk, h.left, h.self⟩
theorem u8_wrap (x : Int) : ∃ B : Nat, B < 256 ∧ IntKind.u8.wrap x = (B : Int) ∧ (∀ s : Nat, x = (s : Int) → s < 256 → B = s) := by
  have h : IntKind.u8.wrap x = x % 256 := by
    first
      | rfl
      | (show x.emod 256 = _; rfl)
      | simp [IntKind.wrap, IntKind.min, IntKind.max, IntKind.bits, IntKind.signed]
  refine ⟨(x % 256).toNat, by omega, by rw [h]; omega, fun s hs h2 => by omega⟩
set_option maxRecDepth 100000 in
set_option maxHeartbeats 8000000 in
theorem law_turns (x : Int) (A : Option Addr) (n c : Nat) (xs : List Int) (w : World) (h : RdS w w.heap.size 1 A n c (rowsV intC xs)) (hn : n ≤ maxLen) :
    Calls Try.prog 5 #[.int .i64 x, .slice A n c] w fun e w' => e = .returned (.bool true) ∧ Below w.heap.size w w' := by
  have hl := h.rlen intC_len (by decide)
  unfold maxLen at hn
  have HR := Lib.hid h
  have Hl := Lib.hid hl
  clear h hl
  go_enter Try.func5, Try.ntmps5
  go_wp2_with fail
  refine (shown17 _).mono ?_
  rintro e w1 ⟨rfl, hb1⟩
  have HB1 := Lib.hid hb1
  clear hb1
  go_wp2_with fail
  refine (rv_new x w1).mono ?_
  rintro e w2 ⟨g, win, bm, rfl, hwin, hS, hb2⟩
  have hw1 : 1 ≤ win := by omega
  have hw2 : win ≤ 64 := by omega
  have HA0 : RowKit.Hid (TuIn w g win bm 0 0 w2 0 (.map []) []) := Lib.hid ⟨hS.lower HB1.out.size, bel_bl HB1.out hb2, Nat.le_refl _, Nat.le_refl _, fun e he => (by cases he), fun e he => (by cases he)⟩
  clear hwin hS hb2 HB1
  go_wp2
  go_loopw [7, 8] (fun st si wr => ∃ (k got : Nat) (nm : Nat) (D : DataW Value) (HL : List HE), k ≤ 150 ∧ si = .int .i64 k ∧ st = .int .i64 got ∧ RowKit.Hid (TuIn w g win bm k got wr nm D HL)) (fun _ si _ => 150 - (intOf si).toNat)
  case atStart => exact ⟨0, 0, _, _, _, by omega, rfl, rfl, HA0⟩
  case round =>
    clear HA0
    obtain ⟨k, got, nm, D, HL, hk, rfl, rfl, HA⟩ := hrel
    by_cases hlt : k < n ∧ k < 150
    · obtain ⟨hkn, hk150⟩ := hlt
      have t1 : decide (k < n) = true := decide_eq_true hkn
      have t2 : decide ((k : Int) < 150) = true := decide_eq_true (by omega)
      obtain ⟨wo, gwo⟩ : ∃ z, wr = z := ⟨_, rfl⟩
      rw [gwo] at HA ⊢
      clear gwo
      have hg := HA.out.gk
      have hnm := HA.out.nk
      obtain ⟨v, hv⟩ : ∃ v, xs[k]? = some v := ⟨_, List.getElem?_eq_getElem (by have := Hl.out; omega)⟩
      obtain ⟨bb, off, rfl, hbB, hpl⟩ := introw HR.out (by omega)
      have lc := (HA.out.below.cell (p := ⟨bb, off + k, none⟩) hbB).trans (hpl k v hv)
      obtain ⟨r, gr⟩ : ∃ r, v.tmod 20 = r := ⟨_, rfl⟩
      have hr1 : r < 20 := by rw [← gr]; exact Int.tmod_lt_of_pos _ (by decide)
      have hr2 : -20 < r := by rw [← gr]; exact Int.lt_tmod_of_pos _ (by decide)
      have hwr : IntKind.i64.wrap r = r := IntWalk.i64_in _ (by omega)
      have hxr : (Lit.int .i64 r).wf = true := wf_i64 (by omega) (by omega)
      obtain ⟨bt, hbt, hw8, hbs⟩ := u8_wrap r
      have HBs := Lib.hid hbs
      have hcnt := HA.out.rv.count
      have HTk := Lib.hid (take_any (wo.alloc (.cells #[.int .u8 (bt : Int)] 5)) (HA.out.rv.below (below1 wo (.cells #[.int .u8 (bt : Int)] 5))) (by omega) (by omega) (Nat.le_trans HA.out.below.size (below1 wo (.cells #[.int .u8 (bt : Int)] 5)).size) (by omega) r hxr (some ⟨wo.heap.size, 0, none⟩) 1 [bt] (RdS.of_whole (size := 1) (n := 1) (Whole.new_ wo 5 [.int .u8 (bt : Int)]) rfl) (by simpa using hbt) (by simp))
      clear hv hpl hbB hbs
      go_wp2_with fail
      clear lc gr hwr hw8
      refine HTk.out.mono ?_
      rintro e w5 ⟨err, T, A5, c5, got', n', D', HL', rfl, hT⟩
      have hrl := hT.rel.len
      have hall := hT.rel.all (P := fun y => y.1 < 20 ∧ y.2.2 = [y.1]) HA.out.self (fun s hs h1 h2 sl _ => ⟨by omega, by show [bt] = [s]; rw [HBs.out s hs (by omega)]⟩)
      have HTA : RowKit.Hid (TuIn w g win bm (k + 1) got' w5 n' D' HL') := Lib.hid ⟨hT.rv, (bel_bl HA.out.below (below1 _ _)).trans ((HA.out.rv.below (below1 wo (.cells #[.int .u8 (bt : Int)] 5))).far hT.kept (Nat.le_trans HA.out.below.size (below1 wo (.cells #[.int .u8 (bt : Int)] 5)).size)), by omega, by have := hT.nle; omega, hT.rel.left HA.out.rv.rise HA.out.left, hall.2⟩
      have HTo := Lib.hid hT
      have HTs := Lib.hid hall.1
      have herr : err = 0 ∨ (err = 22 ∧ T.length = 0) := by
        rcases hT.rel with ⟨h1, rfl, -⟩ | ⟨h1, -⟩
        · exact .inr ⟨h1, rfl⟩
        · exact .inl h1
      obtain ⟨NT, gNT⟩ : ∃ z, T.length = z := ⟨_, rfl⟩
      rw [gNT] at hrl herr ⊢
      have HEr := Lib.hid herr
      have HGo := Lib.hid hrl.1
      have GNT := Lib.hid gNT
      have hNT : NT ≤ 65 := by omega
      clear hT hall herr HTk gNT hrl
      go_wp2
      go_loopw [7, 12] (fun st sk wr => ∃ j G : Nat, j ≤ NT ∧ sk = .int .i64 j ∧ st = .int .i64 G ∧ RowKit.Hid (G = got + j) ∧ wr = w5) (fun _ sk _ => NT - (intOf sk).toNat)
      case atStart => exact ⟨0, got, Nat.zero_le _, rfl, rfl, Lib.hid rfl, rfl⟩
      case round =>
        obtain ⟨j, G, hj, rfl, rfl, HG, hwr⟩ := hrel
        subst hwr
        by_cases hjn : j < NT
        · obtain ⟨y, hy⟩ : ∃ y, T[j]? = some y := ⟨_, List.getElem?_eq_getElem (by have := GNT.out; omega)⟩
          have hym := List.mem_of_getElem? hy
          have hyt := HTo.out.rel.told hy
          have hys := (HTs.out y hym).2
          have hyl := (HTo.out.told y hym).1
          obtain ⟨b5, o5, gA5, -, hp5⟩ := HTo.out.row.place slc_len (by decide) (by have := GNT.out; omega)
          have l5 := hp5 j y.2.1 (by simp [hy]) 0 _ rfl
          rw [Addr.add_lit] at l5
          simp only [Nat.add_zero, Nat.mul_one] at l5
          subst gA5
          obtain ⟨Y, ⟨ya, yn, yc⟩, yL⟩ := y
          obtain rfl : yL = [Y] := hys
          obtain rfl : yn = 1 := hyl.len
          obtain ⟨b6, o6, rfl, -, hp6⟩ := hyl.row.place f8_len (by decide) (Nat.succ_pos _)
          have l6 := hp6 0 Y rfl 0 _ rfl
          rw [Addr.add_lit] at l6
          simp only [Nat.add_zero, Nat.mul_one, Nat.zero_mul] at l6
          obtain ⟨G1, gG1⟩ : ∃ G1, G + 1 = G1 := ⟨_, rfl⟩
          obtain rfl : Y = G1 := by have h1 : Y = got + 1 + j := hyt; have h2 := HG.out; omega
          have u1 : IntKind.i64.wrap ((G : Int) + 1) = (Y : Int) := by rw [IntWalk.i64_in _ (by have := HG.out; omega)]; omega
          have u2 : IntKind.i64.wrap (Y : Int) = (Y : Int) := IntWalk.i64_in _ (by have := HG.out; omega)
          have HG1 : RowKit.Hid (Y = got + (j + 1)) := Lib.hid (by have := HG.out; omega)
          clear hy hym hyt hyl hp5 hp6 gG1
          go_wp2
          go_roundw
          case rel => exact ⟨j + 1, Y, by omega, by go_num, rfl, HG1, trivial⟩
          case measure => simp [intOf]; omega
        · obtain rfl : NT = j := by omega
          obtain rfl : G = got' := by have h1 := HG.out; have h2 := HGo.out; omega
          have hgb : G ≤ 10000 := by have h1 := HGo.out; omega
          have hcn' := HTA.out.rv.count
          have hn' := HTA.out.nk
          have HHd := Lib.hid (rv_held wr HTA.out.rv (by omega))
          clear HG HTo HTs HA HGo
          go_wp2_with fail
          refine HHd.out.mono ?_
          rintro e w6 ⟨A6, c6, rfl, hrow6, -, hb6⟩
          have HT6 := Lib.hid (HTA.out.down hb6)
          have HW6 := Lib.hid hrow6
          obtain ⟨M, gM⟩ : ∃ z, HL'.length = z := ⟨_, rfl⟩
          rw [gM] at HW6 hcn' ⊢
          have GM := Lib.hid gM
          clear hrow6 hb6 HHd HTA gM
          go_upto_region 18 with fail
          go_cut [92] (fun v z => v = .bool false ∧ RowKit.Hid (Below w6.heap.size w6 z))
          case first =>
            have v1 : ¬ (64 < M) := by omega
            have v2 : decide ((64 : Int) < (M : Int)) = false := decide_eq_false (by omega)
            rcases HEr.out with rfl | ⟨rfl, rfl⟩
            · go_wp2_with fail
              refine (rv_got w6 HT6.out.rv).mono ?_
              rintro e w7 ⟨rfl, hb7⟩
              have HB7 := Lib.hid hb7
              clear hb7
              go_wp2_with fail
              go_meet
              exact ⟨rfl, HB7⟩
            · go_wp2_with fail
              refine (rv_got w6 HT6.out.rv).mono ?_
              rintro e w7 ⟨rfl, hb7⟩
              have HB7 := Lib.hid hb7
              clear hb7
              go_wp2_with fail
              go_meet
              exact ⟨rfl, HB7⟩
          case rest =>
            obtain ⟨rfl, HB7⟩ := hcut
            have HT7 := Lib.hid (HT6.out.down HB7.out)
            have HW7 := Lib.hid (HW6.out.bl HB7.out)
            clear HT6 HW6 HB7 HEr
            go_wp2
            go_loopw [14] (fun sj wr => ∃ j : Nat, j ≤ M ∧ sj = .int .i64 j ∧ RowKit.Hid (Below wc.heap.size wc wr)) (fun sj _ => M - (intOf sj).toNat)
            case atStart => exact ⟨0, Nat.zero_le _, rfl, Lib.hid (Below.refl _ _)⟩
            case round =>
              obtain ⟨i, hi, rfl, HJ⟩ := hrel
              by_cases him : i < M
              · obtain ⟨y, hy⟩ : ∃ y, HL'[i]? = some y := ⟨_, List.getElem?_eq_getElem (by have := GM.out; omega)⟩
                obtain ⟨b3, o3, rfl, hb3, hp3⟩ := introw HW7.out (by omega)
                have l3 := (HJ.out.cell (p := ⟨b3, o3 + i, none⟩) hb3).trans (hp3 i (y.1 : Int) (by simp [nums17, hy]))
                have hy1 := HT7.out.left y (List.mem_of_getElem? hy)
                obtain ⟨Y, gY⟩ : ∃ Y, y.1 = Y := ⟨_, rfl⟩
                have GY := Lib.hid gY
                rw [gY] at l3 hy1
                have ld3 : ∀ w', Kept Nil_ wr.drew w' → w'.cell? ⟨b3, o3 + i, none⟩ = some (.int .i64 (Y : Int)) := fun w' hk => hk.nil_cell (show wr.drew.cell? ⟨b3, o3 + i, none⟩ = _ from l3)
                have u1 : IntKind.i64.wrap ((G : Int) + 1) = (G : Int) + 1 := IntWalk.i64_in _ (by omega)
                have u3 : decide ((Y : Int) ≤ (G : Int) + 1) = false := decide_eq_false (by omega)
                have u5 : ¬ (Y ≤ G + 1) := by omega
                clear gY l3 hy1
                rcases Nat.eq_zero_or_pos i with rfl | hi0
                · clear hy hp3 hb3
                  simp only [Nat.add_zero] at ld3
                  rw [show ((0 : Nat) : Int) = 0 from rfl]
                  go_upto_region 23 with fail
                  refine wp_region_reg (Nil_) (by kernel_rfl) ?_
                  apply wpR_next 0 (some 99)
                  · simp only [List.getElem?_toArray, List.getElem?_cons_succ, List.getElem?_cons_zero]; exact rfl
                  · rfl
                  · kernel_rfl
                  · kernel_rfl
                  · kernel_rfl
                  · exact fun _ _ _ _ h => h
                  apply Exists.intro
                  apply And.intro
                  · apply yr_run; rfl; intro w' hw'; go_simp; (try with_reducible rfl)
                  simp only [Act.put, List.setIfInBounds_toArray, List.set_cons_zero, List.set_cons_succ]
                  apply wpR_next 1 (some 100)
                  · simp only [List.getElem?_toArray, List.getElem?_cons_succ, List.getElem?_cons_zero]; exact rfl
                  · rfl
                  · kernel_rfl
                  · kernel_rfl
                  · kernel_rfl
                  · exact fun _ _ _ _ h => h
                  apply Exists.intro
                  apply And.intro
                  · apply yr_run; rfl; intro w' hw'; go_simp; (try with_reducible rfl)
                  simp only [Act.put, List.setIfInBounds_toArray, List.set_cons_zero, List.set_cons_succ]
                  apply wpR_next 2 (some 101)
                  · simp only [List.getElem?_toArray, List.getElem?_cons_succ, List.getElem?_cons_zero]; exact rfl
                  · rfl
                  · kernel_rfl
                  · kernel_rfl
                  · kernel_rfl
                  · exact fun _ _ _ _ h => h
                  apply Exists.intro
                  apply And.intro
                  · apply yr_run; rfl; intro w' hw'; go_simp; (try with_reducible rfl)
                  simp only [Act.put, List.setIfInBounds_toArray, List.set_cons_zero, List.set_cons_succ]
                  apply wpR_next 3 (some 102)
                  · simp only [List.getElem?_toArray, List.getElem?_cons_succ, List.getElem?_cons_zero]; exact rfl
                  · rfl
                  · kernel_rfl
                  · kernel_rfl
                  · kernel_rfl
                  · exact fun _ _ _ _ h => h
                  apply Exists.intro
                  apply And.intro
                  · apply yr_run; rfl; intro w' hw'; go_simp; (try with_reducible rfl)
                  simp only [Act.put, List.setIfInBounds_toArray, List.set_cons_zero, List.set_cons_succ]
                  apply wpR_next 4 (some 103)
                  · simp only [List.getElem?_toArray, List.getElem?_cons_succ, List.getElem?_cons_zero]; exact rfl
                  · rfl
                  · kernel_rfl
                  · kernel_rfl
                  · kernel_rfl
                  · exact fun _ _ _ _ h => h
                  apply Exists.intro
                  apply And.intro
                  · apply yr_run; rfl; intro w' hw'; go_simp; (try with_reducible rfl)
                  simp only [Act.put, List.setIfInBounds_toArray, List.set_cons_zero, List.set_cons_succ]
                  apply wpR_next 5 (some 104)
                  · simp only [List.getElem?_toArray, List.getElem?_cons_succ, List.getElem?_cons_zero]; exact rfl
                  · rfl
                  · kernel_rfl
                  · kernel_rfl
                  · kernel_rfl
                  · exact fun _ _ _ _ h => h
                  apply Exists.intro
                  apply And.intro
                  · apply yr_run; rfl; intro w' hw'; go_simp; (try with_reducible rfl)
                  simp only [Act.put, List.setIfInBounds_toArray, List.set_cons_zero, List.set_cons_succ]
                  apply wpR_next 6 (some 105)
                  · simp only [List.getElem?_toArray, List.getElem?_cons_succ, List.getElem?_cons_zero]; exact rfl
                  · rfl
                  · kernel_rfl
                  · kernel_rfl
                  · kernel_rfl
                  · exact fun _ _ _ _ h => h
                  apply Exists.intro
                  apply And.intro
                  · apply yr_run; rfl; intro w' hw'; go_simp; (try with_reducible rfl)
                  simp only [Act.put, List.setIfInBounds_toArray, List.set_cons_zero, List.set_cons_succ]
                  apply wpR_next 7 (some 106)
                  · simp only [List.getElem?_toArray, List.getElem?_cons_succ, List.getElem?_cons_zero]; exact rfl
                  · rfl
                  · kernel_rfl
                  · kernel_rfl
                  · kernel_rfl
                  · exact fun _ _ _ _ h => h
                  apply Exists.intro
                  apply And.intro
                  · apply yr_run; rfl; intro w' hw'; go_simp; (try with_reducible rfl)
                  simp only [Act.put, List.setIfInBounds_toArray, List.set_cons_zero, List.set_cons_succ]
                  apply wpR_next 8 (some 107)
                  · simp only [List.getElem?_toArray, List.getElem?_cons_succ, List.getElem?_cons_zero]; exact rfl
                  · rfl
                  · kernel_rfl
                  · kernel_rfl
                  · kernel_rfl
                  · exact fun _ _ _ _ h => h
                  apply Exists.intro
                  apply And.intro
                  · apply yr_run; rfl; intro w' hw'; go_simp; (try with_reducible rfl)
                  simp only [Act.put, List.setIfInBounds_toArray, List.set_cons_zero, List.set_cons_succ]
                  apply wpR_next 9 (some 108)
                  · simp only [List.getElem?_toArray, List.getElem?_cons_succ, List.getElem?_cons_zero]; exact rfl
                  · rfl
                  · kernel_rfl
                  · kernel_rfl
                  · kernel_rfl
                  · exact fun _ _ _ _ h => h
                  apply Exists.intro
                  apply And.intro
                  · apply yr_run; rfl; intro w' hw'; go_simp; (try with_reducible rfl)
                  simp only [Act.put, List.setIfInBounds_toArray, List.set_cons_zero, List.set_cons_succ]
                  apply wpR_next 10 (some 109)
                  · simp only [List.getElem?_toArray, List.getElem?_cons_succ, List.getElem?_cons_zero]; exact rfl
                  · rfl
                  · kernel_rfl
                  · kernel_rfl
                  · kernel_rfl
                  · exact fun _ _ _ _ h => h
                  apply Exists.intro
                  apply And.intro
                  · apply yr_run; rfl; intro w' hw'; go_simp; (try with_reducible rfl)
                  simp only [Act.put, List.setIfInBounds_toArray, List.set_cons_zero, List.set_cons_succ]
                  apply wpR_next 11 (some 110)
                  · simp only [List.getElem?_toArray, List.getElem?_cons_succ, List.getElem?_cons_zero]; exact rfl
                  · rfl
                  · kernel_rfl
                  · kernel_rfl
                  · kernel_rfl
                  · exact fun _ _ _ _ h => h
                  apply Exists.intro
                  apply And.intro
                  · exact yr_skip (by rfl)
                  simp only [Act.put, List.setIfInBounds_toArray, List.set_cons_zero, List.set_cons_succ]
                  apply wpR_next 12 (some 111)
                  · simp only [List.getElem?_toArray, List.getElem?_cons_succ, List.getElem?_cons_zero]; exact rfl
                  · rfl
                  · kernel_rfl
                  · kernel_rfl
                  · kernel_rfl
                  · exact fun _ _ _ _ h => h
                  apply Exists.intro
                  apply And.intro
                  · exact yr_skip (by rfl)
                  simp only [Act.put, List.setIfInBounds_toArray, List.set_cons_zero, List.set_cons_succ]
                  apply wpR_next 13 (some 112)
                  · simp only [List.getElem?_toArray, List.getElem?_cons_succ, List.getElem?_cons_zero]; exact rfl
                  · rfl
                  · kernel_rfl
                  · kernel_rfl
                  · kernel_rfl
                  · exact fun _ _ _ _ h => h
                  apply Exists.intro
                  apply And.intro
                  · exact yr_skip (by rfl)
                  simp only [Act.put, List.setIfInBounds_toArray, List.set_cons_zero, List.set_cons_succ]
                  apply wpR_next 14 (some 113)
                  · simp only [List.getElem?_toArray, List.getElem?_cons_succ, List.getElem?_cons_zero]; exact rfl
                  · rfl
                  · kernel_rfl
                  · kernel_rfl
                  · kernel_rfl
                  · exact fun _ _ _ _ h => h
                  apply Exists.intro
                  apply And.intro
                  · exact yr_skip (by rfl)
                  simp only [Act.put, List.setIfInBounds_toArray, List.set_cons_zero, List.set_cons_succ]
                  apply wpR_next 15 (some 114)
                  · simp only [List.getElem?_toArray, List.getElem?_cons_succ, List.getElem?_cons_zero]; exact rfl
                  · rfl
                  · kernel_rfl
                  · kernel_rfl
                  · kernel_rfl
                  · exact fun _ _ _ _ h => h
                  apply Exists.intro
                  apply And.intro
                  · exact yr_skip (by rfl)
                  simp only [Act.put, List.setIfInBounds_toArray, List.set_cons_zero, List.set_cons_succ]
                  apply wpR_next 16 (some 115)
                  · simp only [List.getElem?_toArray, List.getElem?_cons_succ, List.getElem?_cons_zero]; exact rfl
                  · rfl
                  · kernel_rfl
                  · kernel_rfl
                  · kernel_rfl
                  · exact fun _ _ _ _ h => h
                  apply Exists.intro
                  apply And.intro
                  · exact yr_skip (by rfl)
                  simp only [Act.put, List.setIfInBounds_toArray, List.set_cons_zero, List.set_cons_succ]
                  apply wpR_next 17 (some 116)
                  · simp only [List.getElem?_toArray, List.getElem?_cons_succ, List.getElem?_cons_zero]; exact rfl
                  · rfl
                  · kernel_rfl
                  · kernel_rfl
                  · kernel_rfl
                  · exact fun _ _ _ _ h => h
                  apply Exists.intro
                  apply And.intro
                  · exact yr_skip (by rfl)
                  simp only [Act.put, List.setIfInBounds_toArray, List.set_cons_zero, List.set_cons_succ]
                  apply wpR_next 18 (some 117)
                  · simp only [List.getElem?_toArray, List.getElem?_cons_succ, List.getElem?_cons_zero]; exact rfl
                  · rfl
                  · kernel_rfl
                  · kernel_rfl
                  · kernel_rfl
                  · exact fun _ _ _ _ h => h
                  apply Exists.intro
                  apply And.intro
                  · exact yr_skip (by rfl)
                  simp only [Act.put, List.setIfInBounds_toArray, List.set_cons_zero, List.set_cons_succ]
                  apply wpR_next 19 (some 118)
                  · simp only [List.getElem?_toArray, List.getElem?_cons_succ, List.getElem?_cons_zero]; exact rfl
                  · rfl
                  · kernel_rfl
                  · kernel_rfl
                  · kernel_rfl
                  · exact fun _ _ _ _ h => h
                  apply Exists.intro
                  apply And.intro
                  · exact yr_skip (by rfl)
                  simp only [Act.put, List.setIfInBounds_toArray, List.set_cons_zero, List.set_cons_succ]
                  apply wpR_next 20 (some 119)
                  · simp only [List.getElem?_toArray, List.getElem?_cons_succ, List.getElem?_cons_zero]; exact rfl
                  · rfl
                  · kernel_rfl
                  · kernel_rfl
                  · kernel_rfl
                  · exact fun _ _ _ _ h => h
                  apply Exists.intro
                  apply And.intro
                  · exact yr_skip (by rfl)
                  simp only [Act.put, List.setIfInBounds_toArray, List.set_cons_zero, List.set_cons_succ]
                  apply wpR_next 21 (some 120)
                  · simp only [List.getElem?_toArray, List.getElem?_cons_succ, List.getElem?_cons_zero]; exact rfl
                  · rfl
                  · kernel_rfl
                  · kernel_rfl
                  · kernel_rfl
                  · exact fun _ _ _ _ h => h
                  apply Exists.intro
                  apply And.intro
                  · apply yr_run; rfl; intro w' hw'; go_simp; (try with_reducible rfl)
                  simp only [Act.put, List.setIfInBounds_toArray, List.set_cons_zero, List.set_cons_succ]
                  apply wpR_next 22 (some 121)
                  · simp only [List.getElem?_toArray, List.getElem?_cons_succ, List.getElem?_cons_zero]; exact rfl
                  · rfl
                  · kernel_rfl
                  · kernel_rfl
                  · kernel_rfl
                  · exact fun _ _ _ _ h => h
                  apply Exists.intro
                  apply And.intro
                  · apply yr_run; rfl; intro w' hw'; go_simp; (try with_reducible rfl)
                  simp only [Act.put, List.setIfInBounds_toArray, List.set_cons_zero, List.set_cons_succ]
                  refine wpR_done (by kernel_rfl) ?_ _
                  intro Wz hwz
                  have HJz : RowKit.Hid (Below wc.heap.size wc Wz) := Lib.hid (HJ.out.trans ((Ext.trans ((Below.refl _ _).drew) hwz).mono HJ.out.size))
                  clear hwz ld3 u1 u3 u5
                  go_wp2
                  go_roundw
                  case rel => exact ⟨0 + 1, by omega, by go_num, HJz⟩
                  case measure => simp [intOf]; omega
                · obtain ⟨ip, rfl⟩ : ∃ ip, i = ip + 1 := ⟨i - 1, by omega⟩
                  obtain ⟨z, hz⟩ : ∃ z, HL'[ip]? = some z := ⟨_, List.getElem?_eq_getElem (by have := GM.out; omega)⟩
                  have l4 := (HJ.out.cell (p := ⟨b3, o3 + ip, none⟩) hb3).trans (hp3 ip (z.1 : Int) (by simp [nums17, hz]))
                  have hzy : z.1 < y.1 := by
                    have h1 := List.pairwise_iff_getElem.1 HT7.out.rv.rise ip (ip + 1) (List.getElem?_eq_some_iff.1 hz).1 (List.getElem?_eq_some_iff.1 hy).1 (by omega)
                    rw [(List.getElem?_eq_some_iff.1 hz).2, (List.getElem?_eq_some_iff.1 hy).2] at h1
                    exact h1
                  obtain ⟨Z, gZ⟩ : ∃ Z, z.1 = Z := ⟨_, rfl⟩
                  rw [gZ] at l4 hzy
                  rw [GY.out] at hzy
                  have ld4 : ∀ w', Kept Nil_ wr.drew w' → w'.cell? ⟨b3, o3 + ip, none⟩ = some (.int .i64 (Z : Int)) := fun w' hk => hk.nil_cell (show wr.drew.cell? ⟨b3, o3 + ip, none⟩ = _ from l4)
                  obtain ⟨i1, gi1⟩ : ∃ i1, ip + 1 = i1 := ⟨_, rfl⟩
                  rw [gi1] at ld3 hi him ⊢
                  have u6 : IntKind.i64.wrap ((i1 : Int) - 1) = (ip : Int) := by rw [IntWalk.i64_in _ (by omega)]; omega
                  have u7 : decide ((Y : Int) ≤ (Z : Int)) = false := decide_eq_false (by omega)
                  have u8 : ¬ (Y ≤ Z) := by omega
                  have u9 : decide ((0 : Int) < (i1 : Int)) = true := decide_eq_true (by omega)
                  have u10 : 0 < i1 := by omega
                  have u11 : ip < M := by omega
                  clear hy hz hp3 hb3 l4 gZ hzy gi1 hi0
                  go_upto_region 23 with fail
                  refine wp_region_reg (Nil_) (by kernel_rfl) ?_
                  apply wpR_next 0 (some 99)
                  · simp only [List.getElem?_toArray, List.getElem?_cons_succ, List.getElem?_cons_zero]; exact rfl
                  · rfl
                  · kernel_rfl
                  · kernel_rfl
                  · kernel_rfl
                  · exact fun _ _ _ _ h => h
                  apply Exists.intro
                  apply And.intro
                  · apply yr_run; rfl; intro w' hw'; go_simp; (try with_reducible rfl)
                  simp only [Act.put, List.setIfInBounds_toArray, List.set_cons_zero, List.set_cons_succ]
                  apply wpR_next 1 (some 100)
                  · simp only [List.getElem?_toArray, List.getElem?_cons_succ, List.getElem?_cons_zero]; exact rfl
                  · rfl
                  · kernel_rfl
                  · kernel_rfl
                  · kernel_rfl
                  · exact fun _ _ _ _ h => h
                  apply Exists.intro
                  apply And.intro
                  · apply yr_run; rfl; intro w' hw'; go_simp; (try with_reducible rfl)
                  simp only [Act.put, List.setIfInBounds_toArray, List.set_cons_zero, List.set_cons_succ]
                  apply wpR_next 2 (some 101)
                  · simp only [List.getElem?_toArray, List.getElem?_cons_succ, List.getElem?_cons_zero]; exact rfl
                  · rfl
                  · kernel_rfl
                  · kernel_rfl
                  · kernel_rfl
                  · exact fun _ _ _ _ h => h
                  apply Exists.intro
                  apply And.intro
                  · apply yr_run; rfl; intro w' hw'; go_simp; (try with_reducible rfl)
                  simp only [Act.put, List.setIfInBounds_toArray, List.set_cons_zero, List.set_cons_succ]
                  apply wpR_next 3 (some 102)
                  · simp only [List.getElem?_toArray, List.getElem?_cons_succ, List.getElem?_cons_zero]; exact rfl
                  · rfl
                  · kernel_rfl
                  · kernel_rfl
                  · kernel_rfl
                  · exact fun _ _ _ _ h => h
                  apply Exists.intro
                  apply And.intro
                  · apply yr_run; rfl; intro w' hw'; go_simp; (try with_reducible rfl)
                  simp only [Act.put, List.setIfInBounds_toArray, List.set_cons_zero, List.set_cons_succ]
                  apply wpR_next 4 (some 103)
                  · simp only [List.getElem?_toArray, List.getElem?_cons_succ, List.getElem?_cons_zero]; exact rfl
                  · rfl
                  · kernel_rfl
                  · kernel_rfl
                  · kernel_rfl
                  · exact fun _ _ _ _ h => h
                  apply Exists.intro
                  apply And.intro
                  · apply yr_run; rfl; intro w' hw'; go_simp; (try with_reducible rfl)
                  simp only [Act.put, List.setIfInBounds_toArray, List.set_cons_zero, List.set_cons_succ]
                  apply wpR_next 5 (some 104)
                  · simp only [List.getElem?_toArray, List.getElem?_cons_succ, List.getElem?_cons_zero]; exact rfl
                  · rfl
                  · kernel_rfl
                  · kernel_rfl
                  · kernel_rfl
                  · exact fun _ _ _ _ h => h
                  apply Exists.intro
                  apply And.intro
                  · apply yr_run; rfl; intro w' hw'; go_simp; (try with_reducible rfl)
                  simp only [Act.put, List.setIfInBounds_toArray, List.set_cons_zero, List.set_cons_succ]
                  apply wpR_next 6 (some 105)
                  · simp only [List.getElem?_toArray, List.getElem?_cons_succ, List.getElem?_cons_zero]; exact rfl
                  · rfl
                  · kernel_rfl
                  · kernel_rfl
                  · kernel_rfl
                  · exact fun _ _ _ _ h => h
                  apply Exists.intro
                  apply And.intro
                  · apply yr_run; rfl; intro w' hw'; go_simp; (try with_reducible rfl)
                  simp only [Act.put, List.setIfInBounds_toArray, List.set_cons_zero, List.set_cons_succ]
                  apply wpR_next 7 (some 106)
                  · simp only [List.getElem?_toArray, List.getElem?_cons_succ, List.getElem?_cons_zero]; exact rfl
                  · rfl
                  · kernel_rfl
                  · kernel_rfl
                  · kernel_rfl
                  · exact fun _ _ _ _ h => h
                  apply Exists.intro
                  apply And.intro
                  · apply yr_run; rfl; intro w' hw'; go_simp; (try with_reducible rfl)
                  simp only [Act.put, List.setIfInBounds_toArray, List.set_cons_zero, List.set_cons_succ]
                  apply wpR_next 8 (some 107)
                  · simp only [List.getElem?_toArray, List.getElem?_cons_succ, List.getElem?_cons_zero]; exact rfl
                  · rfl
                  · kernel_rfl
                  · kernel_rfl
                  · kernel_rfl
                  · exact fun _ _ _ _ h => h
                  apply Exists.intro
                  apply And.intro
                  · apply yr_run; rfl; intro w' hw'; go_simp; (try with_reducible rfl)
                  simp only [Act.put, List.setIfInBounds_toArray, List.set_cons_zero, List.set_cons_succ]
                  apply wpR_next 9 (some 108)
                  · simp only [List.getElem?_toArray, List.getElem?_cons_succ, List.getElem?_cons_zero]; exact rfl
                  · rfl
                  · kernel_rfl
                  · kernel_rfl
                  · kernel_rfl
                  · exact fun _ _ _ _ h => h
                  apply Exists.intro
                  apply And.intro
                  · apply yr_run; rfl; intro w' hw'; go_simp; (try with_reducible rfl)
                  simp only [Act.put, List.setIfInBounds_toArray, List.set_cons_zero, List.set_cons_succ]
                  apply wpR_next 10 (some 109)
                  · simp only [List.getElem?_toArray, List.getElem?_cons_succ, List.getElem?_cons_zero]; exact rfl
                  · rfl
                  · kernel_rfl
                  · kernel_rfl
                  · kernel_rfl
                  · exact fun _ _ _ _ h => h
                  apply Exists.intro
                  apply And.intro
                  · apply yr_run; rfl; intro w' hw'; go_simp; (try with_reducible rfl)
                  simp only [Act.put, List.setIfInBounds_toArray, List.set_cons_zero, List.set_cons_succ]
                  apply wpR_next 11 (some 110)
                  · simp only [List.getElem?_toArray, List.getElem?_cons_succ, List.getElem?_cons_zero]; exact rfl
                  · rfl
                  · kernel_rfl
                  · kernel_rfl
                  · kernel_rfl
                  · exact fun _ _ _ _ h => h
                  apply Exists.intro
                  apply And.intro
                  · apply yr_run; rfl; intro w' hw'; go_simp; (try with_reducible rfl)
                  simp only [Act.put, List.setIfInBounds_toArray, List.set_cons_zero, List.set_cons_succ]
                  apply wpR_next 12 (some 111)
                  · simp only [List.getElem?_toArray, List.getElem?_cons_succ, List.getElem?_cons_zero]; exact rfl
                  · rfl
                  · kernel_rfl
                  · kernel_rfl
                  · kernel_rfl
                  · exact fun _ _ _ _ h => h
                  apply Exists.intro
                  apply And.intro
                  · apply yr_run; rfl; intro w' hw'; go_simp; (try with_reducible rfl)
                  simp only [Act.put, List.setIfInBounds_toArray, List.set_cons_zero, List.set_cons_succ]
                  apply wpR_next 13 (some 112)
                  · simp only [List.getElem?_toArray, List.getElem?_cons_succ, List.getElem?_cons_zero]; exact rfl
                  · rfl
                  · kernel_rfl
                  · kernel_rfl
                  · kernel_rfl
                  · exact fun _ _ _ _ h => h
                  apply Exists.intro
                  apply And.intro
                  · apply yr_run; rfl; intro w' hw'; go_simp; (try with_reducible rfl)
                  simp only [Act.put, List.setIfInBounds_toArray, List.set_cons_zero, List.set_cons_succ]
                  apply wpR_next 14 (some 113)
                  · simp only [List.getElem?_toArray, List.getElem?_cons_succ, List.getElem?_cons_zero]; exact rfl
                  · rfl
                  · kernel_rfl
                  · kernel_rfl
                  · kernel_rfl
                  · exact fun _ _ _ _ h => h
                  apply Exists.intro
                  apply And.intro
                  · apply yr_run; rfl; intro w' hw'; go_simp; (try with_reducible rfl)
                  simp only [Act.put, List.setIfInBounds_toArray, List.set_cons_zero, List.set_cons_succ]
                  apply wpR_next 15 (some 114)
                  · simp only [List.getElem?_toArray, List.getElem?_cons_succ, List.getElem?_cons_zero]; exact rfl
                  · rfl
                  · kernel_rfl
                  · kernel_rfl
                  · kernel_rfl
                  · exact fun _ _ _ _ h => h
                  apply Exists.intro
                  apply And.intro
                  · apply yr_run; rfl; intro w' hw'; go_simp; (try with_reducible rfl)
                  simp only [Act.put, List.setIfInBounds_toArray, List.set_cons_zero, List.set_cons_succ]
                  apply wpR_next 16 (some 115)
                  · simp only [List.getElem?_toArray, List.getElem?_cons_succ, List.getElem?_cons_zero]; exact rfl
                  · rfl
                  · kernel_rfl
                  · kernel_rfl
                  · kernel_rfl
                  · exact fun _ _ _ _ h => h
                  apply Exists.intro
                  apply And.intro
                  · apply yr_run; rfl; intro w' hw'; go_simp; (try with_reducible rfl)
                  simp only [Act.put, List.setIfInBounds_toArray, List.set_cons_zero, List.set_cons_succ]
                  apply wpR_next 17 (some 116)
                  · simp only [List.getElem?_toArray, List.getElem?_cons_succ, List.getElem?_cons_zero]; exact rfl
                  · rfl
                  · kernel_rfl
                  · kernel_rfl
                  · kernel_rfl
                  · exact fun _ _ _ _ h => h
                  apply Exists.intro
                  apply And.intro
                  · apply yr_run; rfl; intro w' hw'; go_simp; (try with_reducible rfl)
                  simp only [Act.put, List.setIfInBounds_toArray, List.set_cons_zero, List.set_cons_succ]
                  apply wpR_next 18 (some 117)
                  · simp only [List.getElem?_toArray, List.getElem?_cons_succ, List.getElem?_cons_zero]; exact rfl
                  · rfl
                  · kernel_rfl
                  · kernel_rfl
                  · kernel_rfl
                  · exact fun _ _ _ _ h => h
                  apply Exists.intro
                  apply And.intro
                  · apply yr_run; rfl; intro w' hw'; go_simp; (try with_reducible rfl)
                  simp only [Act.put, List.setIfInBounds_toArray, List.set_cons_zero, List.set_cons_succ]
                  apply wpR_next 19 (some 118)
                  · simp only [List.getElem?_toArray, List.getElem?_cons_succ, List.getElem?_cons_zero]; exact rfl
                  · rfl
                  · kernel_rfl
                  · kernel_rfl
                  · kernel_rfl
                  · exact fun _ _ _ _ h => h
                  apply Exists.intro
                  apply And.intro
                  · apply yr_run; rfl; intro w' hw'; go_simp; (try with_reducible rfl)
                  simp only [Act.put, List.setIfInBounds_toArray, List.set_cons_zero, List.set_cons_succ]
                  apply wpR_next 20 (some 119)
                  · simp only [List.getElem?_toArray, List.getElem?_cons_succ, List.getElem?_cons_zero]; exact rfl
                  · rfl
                  · kernel_rfl
                  · kernel_rfl
                  · kernel_rfl
                  · exact fun _ _ _ _ h => h
                  apply Exists.intro
                  apply And.intro
                  · apply yr_run; rfl; intro w' hw'; go_simp; (try with_reducible rfl)
                  simp only [Act.put, List.setIfInBounds_toArray, List.set_cons_zero, List.set_cons_succ]
                  apply wpR_next 21 (some 120)
                  · simp only [List.getElem?_toArray, List.getElem?_cons_succ, List.getElem?_cons_zero]; exact rfl
                  · rfl
                  · kernel_rfl
                  · kernel_rfl
                  · kernel_rfl
                  · exact fun _ _ _ _ h => h
                  apply Exists.intro
                  apply And.intro
                  · apply yr_run; rfl; intro w' hw'; go_simp; (try with_reducible rfl)
                  simp only [Act.put, List.setIfInBounds_toArray, List.set_cons_zero, List.set_cons_succ]
                  apply wpR_next 22 (some 121)
                  · simp only [List.getElem?_toArray, List.getElem?_cons_succ, List.getElem?_cons_zero]; exact rfl
                  · rfl
                  · kernel_rfl
                  · kernel_rfl
                  · kernel_rfl
                  · exact fun _ _ _ _ h => h
                  apply Exists.intro
                  apply And.intro
                  · apply yr_run; rfl; intro w' hw'; go_simp; (try with_reducible rfl)
                  simp only [Act.put, List.setIfInBounds_toArray, List.set_cons_zero, List.set_cons_succ]
                  refine wpR_done (by kernel_rfl) ?_ _
                  intro Wz hwz
                  have HJz : RowKit.Hid (Below wc.heap.size wc Wz) := Lib.hid (HJ.out.trans ((Ext.trans ((Below.refl _ _).drew) hwz).mono HJ.out.size))
                  clear hwz ld3 ld4 u1 u3 u5 u6 u7 u8 u9 u10 u11
                  go_wp2
                  go_roundw
                  case rel => exact ⟨i1 + 1, by omega, by go_num, HJz⟩
                  case measure => simp [intOf]; omega
              · obtain rfl : M = i := by omega
                go_wp2
                go_roundw
                case rel => exact ⟨k + 1, G, _, _, _, by omega, by go_num, rfl, Lib.hid (HT7.out.down HJ.out)⟩
                case measure => simp [intOf]; omega
    · have Hlt := Lib.hid hlt
      clear hlt
      by_cases h4 : k < n
      · have t1 : decide (k < n) = true := decide_eq_true h4
        have t2 : ¬ ((k : Int) < 150) := by have := Hlt.out; omega
        go_wp2_with fail
        go_ret
        exact ⟨rfl, HA.out.below⟩
      · have t1 : decide (k < n) = false := decide_eq_false h4
        go_wp2_with fail
        go_ret
        exact ⟨rfl, HA.out.below⟩
end Go.Proofs.Ythfngmlnmpbcpaa
