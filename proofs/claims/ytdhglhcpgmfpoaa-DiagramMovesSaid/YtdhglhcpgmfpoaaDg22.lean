/- The document's Same. -/
import Derived.Test.YtdhglhcpgmfpoaaDg19
namespace Go.Proofs.Ytdhglhcpgmfpoaa
open Go.RowKit
set_option linter.unusedSimpArgs false
set_option linter.unusedVariables false

set_option maxRecDepth 100000 in
set_option maxHeartbeats 4000000 in
theorem rsame_any (A : Option Addr) (n c : Nat) (Vs : List VC) (B : Option Addr) (m k : Nat) (Es : List EC) (A' : Option Addr) (n' c' : Nat) (Ws : List VC) (B' : Option Addr) (m' k' : Nat) (Fs : List EC) (w : World)
    (h : DgIn w A n c Vs B m k Es) (h' : DgIn w A' n' c' Ws B' m' k' Fs) (hn : n ≤ 1000000) (hm : m ≤ 1000000) :
    Calls Try.prog 24 #[.agg #[.slice A n c, .slice B m k], .agg #[.slice A' n' c', .slice B' m' k']] w fun e w' => e = .returned (.bool (decide (Vs.map vS = Ws.map vS ∧ Es = Fs))) ∧ Below w.heap.size w w' := by
  have Hu := Lib.hid h.v
  have Hv := Lib.hid h'.v
  have HEu := Lib.hid h.e
  have HEv := Lib.hid h'.e
  have HRu := Lib.hid h.r
  have HRv := Lib.hid h'.r
  have hlu := h.v.rlen vC_len (by decide)
  have hlv := h'.v.rlen vC_len (by decide)
  have heu := h.e.rlen eC_len (by decide)
  have hev := h'.e.rlen eC_len (by decide)
  have Hlu := Lib.hid hlu
  have Hlv := Lib.hid hlv
  have Hleu := Lib.hid heu
  have Hlev := Lib.hid hev
  obtain ⟨b, gb⟩ : ∃ z, decide (Vs.map vS = Ws.map vS ∧ Es = Fs) = z := ⟨_, rfl⟩
  rw [gb]
  have HG := Lib.hid gb
  have HB2 := Lib.hid (below2 w (.cells #[.slice A n c, .slice B m k] 25) (.cells #[.slice A' n' c', .slice B' m' k'] 25))
  by_cases hnn : n = n'
  case neg =>
    have hq : b = false := by
      rw [← gb]
      refine decide_eq_false (fun e => hnn ?_)
      have := congrArg List.length e.1
      simp at this
      omega
    subst hq
    have hne : ((n : Int) != (n' : Int)) = true := by simp; omega
    have hne2 : ((n : Int) == (n' : Int)) = false := by simp; omega
    clear h h' gb HG hlu hlv heu hev
    go_enter Try.func24, Try.ntmps24
    go_wp2
    go_ret
    exact ⟨rfl, HB2.out⟩
  by_cases hmm : m = m'
  case neg =>
    have hq : b = false := by
      rw [← gb]
      refine decide_eq_false (fun e => hmm ?_)
      have := congrArg List.length e.2
      omega
    subst hq hnn
    have hne : ((m : Int) != (m' : Int)) = true := by simp; omega
    have hne2 : ((m : Int) == (m' : Int)) = false := by simp; omega
    clear h h' gb HG hlu hlv heu hev
    go_enter Try.func24, Try.ntmps24
    go_wp2
    go_ret
    exact ⟨rfl, HB2.out⟩
  subst hnn hmm
  clear h h' gb hlu hlv heu hev HB2
  go_enter Try.func24, Try.ntmps24
  go_wp2
  have hx0 : Whole ((w.alloc (.cells #[.slice A n c, .slice B m k] 25)).alloc (.cells #[.slice A' n c', .slice B' m k'] 25)) (w.heap.size) 25 [.slice A n c, .slice B m k] := ((Whole.new_ w 25 [.slice A n c, .slice B m k]).alloc (.cells #[.slice A' n c', .slice B' m k'] 25))
  have hx1 : Whole ((w.alloc (.cells #[.slice A n c, .slice B m k] 25)).alloc (.cells #[.slice A' n c', .slice B' m k'] 25)) (w.heap.size + 1) 25 [.slice A' n c', .slice B' m k'] := (Whole.new2 (w := (w.alloc (.cells #[.slice A n c, .slice B m k] 25))) (by simp))
  have hbl : Below w.heap.size w ((w.alloc (.cells #[.slice A n c, .slice B m k] 25)).alloc (.cells #[.slice A' n c', .slice B' m k'] 25)) := (bel_al (below1 w (.cells #[.slice A n c, .slice B m k] 25)) (.cells #[.slice A' n c', .slice B' m k'] 25))
  have hsz : w.heap.size + 1 + 1 ≤ (((w.alloc (.cells #[.slice A n c, .slice B m k] 25)).alloc (.cells #[.slice A' n c', .slice B' m k'] 25))).heap.size := by simp
  obtain ⟨W0, gW0⟩ : ∃ z, ((w.alloc (.cells #[.slice A n c, .slice B m k] 25)).alloc (.cells #[.slice A' n c', .slice B' m k'] 25)) = z := ⟨_, rfl⟩
  rw [gW0] at hx0 hx1 hbl hsz
  obtain ⟨b1, gb1⟩ : ∃ z, w.heap.size + 1 = z := ⟨_, rfl⟩
  rw [gb1] at hx1
  obtain ⟨b0, gb0⟩ : ∃ z, w.heap.size = z := ⟨_, rfl⟩
  rw [gb0] at hx0
  have HX0 := Lib.hid hx0
  have HX1 := Lib.hid hx1
  have HB0 := Lib.hid hbl
  have HS0 := Lib.hid hsz
  have Gb0 := Lib.hid gb0
  have Lb0 : RowKit.Hid (w.heap.size ≤ b0) := Lib.hid (by omega)
  have Gb1 := Lib.hid gb1
  have Lb1 : RowKit.Hid (w.heap.size ≤ b1) := Lib.hid (by omega)
  have N01 : RowKit.Hid (b0 ≠ b1) := Lib.hid (by omega)
  rw [gW0, gb1, gb0]
  clear gW0 hbl hsz hx0 hx1 gb0 gb1
  go_loopw [5] (fun si wr => ∃ j : Nat, j ≤ n ∧ si = .int .i64 j ∧ RowKit.Hid (Below w.heap.size w wr) ∧ RowKit.Hid (Whole wr b0 25 [.slice A n c, .slice B m k]) ∧ RowKit.Hid (Whole wr b1 25 [.slice A' n c', .slice B' m k']) ∧ RowKit.Hid (decide ((Vs.drop j).map vS = (Ws.drop j).map vS ∧ Es = Fs) = b)) (fun si _ => n - (intOf si).toNat)
  case atStart => exact ⟨0, by omega, rfl, HB0, HX0, HX1, HG⟩
  case round =>
    clear HB0 HX0 HX1 HG
    obtain ⟨j, hj, rfl, HB, HX0, HX1, HG⟩ := hrel
    obtain ⟨wo, gwo⟩ : ∃ z, wr = z := ⟨_, rfl⟩
    rw [gwo] at HB HX0 HX1 ⊢
    clear gwo
    have cb := HX0.out.cell (i := 0) rfl
    by_cases hjn : j < n
    · obtain ⟨xu, hxu⟩ : ∃ x, Vs[j]? = some x := ⟨_, List.getElem?_eq_getElem (by have := Hlu.out; omega)⟩
      obtain ⟨xv, hxv⟩ : ∃ x, Ws[j]? = some x := ⟨_, List.getElem?_eq_getElem (by have := Hlv.out; omega)⟩
      have hg := HG.out
      rw [List.drop_eq_getElem_cons (List.getElem?_eq_some_iff.1 hxu).1, (List.getElem?_eq_some_iff.1 hxu).2, List.drop_eq_getElem_cons (List.getElem?_eq_some_iff.1 hxv).1, (List.getElem?_eq_some_iff.1 hxv).2] at hg
      simp only [List.map_cons, List.cons.injEq] at hg
      have hru := HRu.out xu (List.mem_of_getElem? hxu)
      have hrv := HRv.out xv (List.mem_of_getElem? hxv)
      obtain ⟨bbu, offu, rfl, hbBu, hplu⟩ := Hu.out.place vC_len (by decide) (by omega)
      obtain ⟨bbv, offv, rfl, hbBv, hplv⟩ := Hv.out.place vC_len (by decide) (by omega)
      have hbw := HB.out
      have q0 := hplu j _ hxu 0 _ rfl
      have q1 := hplu j _ hxu 1 _ rfl
      have q2 := hplu j _ hxu 2 _ rfl
      have q3 := hplu j _ hxu 3 _ rfl
      have q4 := hplu j _ hxu 4 _ rfl
      simp only [Addr.add_lit, Nat.add_zero] at q0 q1 q2 q3 q4
      have lu0 := (hbw.cell (p := ⟨bbu, offu + j * 5, none⟩) hbBu).trans q0
      have lu1 := (hbw.cell (p := ⟨bbu, offu + j * 5 + 1, none⟩) hbBu).trans q1
      have lu2 := (hbw.cell (p := ⟨bbu, offu + j * 5 + 2, none⟩) hbBu).trans q2
      have lu3 := (hbw.cell (p := ⟨bbu, offu + j * 5 + 3, none⟩) hbBu).trans q3
      have lu4 := (hbw.cell (p := ⟨bbu, offu + j * 5 + 4, none⟩) hbBu).trans q4
      clear hbw q0 q1 q2 q3 q4
      have hbw := bel_al HB.out (.cells (vC xu).toArray 39)
      have q0 := hplv j _ hxv 0 _ rfl
      have q1 := hplv j _ hxv 1 _ rfl
      have q2 := hplv j _ hxv 2 _ rfl
      have q3 := hplv j _ hxv 3 _ rfl
      have q4 := hplv j _ hxv 4 _ rfl
      simp only [Addr.add_lit, Nat.add_zero] at q0 q1 q2 q3 q4
      have lv0 := (hbw.cell (p := ⟨bbv, offv + j * 5, none⟩) hbBv).trans q0
      have lv1 := (hbw.cell (p := ⟨bbv, offv + j * 5 + 1, none⟩) hbBv).trans q1
      have lv2 := (hbw.cell (p := ⟨bbv, offv + j * 5 + 2, none⟩) hbBv).trans q2
      have lv3 := (hbw.cell (p := ⟨bbv, offv + j * 5 + 3, none⟩) hbBv).trans q3
      have lv4 := (hbw.cell (p := ⟨bbv, offv + j * 5 + 4, none⟩) hbBv).trans q4
      clear hbw q0 q1 q2 q3 q4
      obtain ⟨⟨i1, i2⟩, ⟨rA, rn, rc, rL⟩, lb, at_⟩ := xu
      obtain ⟨⟨j1, j2⟩, ⟨sA, sn, sc, sL⟩, kb, bt_⟩ := xv
      dsimp only [vC] at lv0 lv1 lv2 lv3 lv4
      have hR : RdS w w.heap.size 3 rA rn rc (dartsV rL) := hru.2
      have hS : RdS w w.heap.size 3 sA sn sc (dartsV sL) := hrv.2
      have hrc : rn ≤ 9223372036854775807 := Nat.le_trans (Nat.le_trans hR.le hru.1) (by unfold maxLen; omega)
      have HD := Lib.hid (fun W (hb : Below w.heap.size w W) => rdarts_any rA sA rn sn rc sc rL sL W (hR.bl hb) (hS.bl hb) hrc)
      obtain ⟨br, gbr⟩ : ∃ z, decide (rL = sL) = z := ⟨_, rfl⟩
      rw [gbr] at HD
      have hid : ∀ W, (binOp .neq 34 (.agg #[.int .i64 i1, .int .i64 i2]) (.agg #[.int .i64 j1, .int .i64 j2])).run Try.prog W = .ok (.bool (!decide ((i1, i2) = (j1, j2)))) W := fun W => neq_id (i1, i2) (j1, j2) W
      obtain ⟨bi, gbi⟩ : ∃ z, decide ((i1, i2) = (j1, j2)) = z := ⟨_, rfl⟩
      rw [gbi] at hid
      have hst := bytes_beq lb kb
      obtain ⟨bs, gbs⟩ : ∃ z, decide (lb = kb) = z := ⟨_, rfl⟩
      rw [gbs] at hst
      obtain ⟨ba, gba⟩ : ∃ z, (at_ == bt_) = z := ⟨_, rfl⟩
      have gba2 : (at_ != bt_) = !ba := by rw [← gba]; rfl
      have hall : decide (vS ((i1, i2), (rA, rn, rc, rL), lb, at_) = vS ((j1, j2), (sA, sn, sc, sL), kb, bt_)) = (bi && bs && ba && br) := by
        rw [← gbi, ← gbs, ← gba, ← gbr, Bool.eq_iff_iff]
        simp only [vS, decide_eq_true_eq, Prod.mk.injEq, Bool.and_eq_true, beq_iff_eq]
        constructor
        · rintro ⟨⟨h1, h2⟩, h3, h4, h5⟩; exact ⟨⟨⟨⟨h1, h2⟩, h4⟩, h5⟩, h3⟩
        · rintro ⟨⟨⟨⟨h1, h2⟩, h4⟩, h5⟩, h3⟩; exact ⟨⟨h1, h2⟩, h3, h4, h5⟩
      have HG2 : RowKit.Hid ((decide (vS ((i1, i2), (rA, rn, rc, rL), lb, at_) = vS ((j1, j2), (sA, sn, sc, sL), kb, bt_)) && decide ((Vs.drop (j + 1)).map vS = (Ws.drop (j + 1)).map vS ∧ Es = Fs)) = b) := Lib.hid (by
        rw [← hg, ← Bool.decide_and, decide_eq_decide, and_assoc])
      have HA := Lib.hid hall
      have cb1 := HX1.out.cell (i := 0) rfl
      have cb2 := (HX1.out.alloc (.cells #[.int .i64 i1, .int .i64 i2, .slice rA rn rc, .string lb, .int .i64 at_] 39)).cell (i := 0) rfl
      clear hxu hxv hg hplu hplv hbBu hbBv HG hru hrv hR hS hrc gbr gbi gbs hall
      go_wp2_with fail
      refine (HD.out _ (bel_al (bel_al HB.out (.cells #[.int .i64 i1, .int .i64 i2, .slice rA rn rc, .string lb, .int .i64 at_] 39)) (.cells #[.int .i64 j1, .int .i64 j2, .slice sA sn sc, .string kb, .int .i64 bt_] 39))).mono ?_
      rintro e W3 ⟨rfl, hb⟩
      have HB3 : RowKit.Hid (Below w.heap.size w W3) := Lib.hid (bel_bl (bel_al (bel_al HB.out _) _) hb)
      have HX03 := Lib.hid (((HX0.out.alloc (.cells #[.int .i64 i1, .int .i64 i2, .slice rA rn rc, .string lb, .int .i64 at_] 39)).alloc (.cells #[.int .i64 j1, .int .i64 j2, .slice sA sn sc, .string kb, .int .i64 bt_] 39)).bl hb)
      have HX13 := Lib.hid (((HX1.out.alloc (.cells #[.int .i64 i1, .int .i64 i2, .slice rA rn rc, .string lb, .int .i64 at_] 39)).alloc (.cells #[.int .i64 j1, .int .i64 j2, .slice sA sn sc, .string kb, .int .i64 bt_] 39)).bl hb)
      have hyu := ((Whole.new_ wo 39 [.int .i64 i1, .int .i64 i2, .slice rA rn rc, .string lb, .int .i64 at_]).alloc (.cells #[.int .i64 j1, .int .i64 j2, .slice sA sn sc, .string kb, .int .i64 bt_] 39)).bl hb
      have hyv : Whole W3 (wo.heap.size + 1) 39 [.int .i64 j1, .int .i64 j2, .slice sA sn sc, .string kb, .int .i64 bt_] := (show Whole ((wo.alloc (.cells #[.int .i64 i1, .int .i64 i2, .slice rA rn rc, .string lb, .int .i64 at_] 39)).alloc (.cells #[.int .i64 j1, .int .i64 j2, .slice sA sn sc, .string kb, .int .i64 bt_] 39)) (wo.heap.size + 1) 39 [.int .i64 j1, .int .i64 j2, .slice sA sn sc, .string kb, .int .i64 bt_] from Whole.new2 (by simp)).bl hb
      obtain ⟨gu, ggu⟩ : ∃ z, wo.heap.size = z := ⟨_, rfl⟩
      obtain ⟨gv, ggv⟩ : ∃ z, wo.heap.size + 1 = z := ⟨_, rfl⟩
      rw [ggv] at hyv
      rw [ggu] at hyu
      try rw [ggv]
      try rw [ggu]
      have mu0 := hyu.cell (i := 0) rfl
      have mv0 := hyv.cell (i := 0) rfl
      have mu1 := hyu.cell (i := 1) rfl
      have mv1 := hyv.cell (i := 1) rfl
      have mu3 := hyu.cell (i := 3) rfl
      have mv3 := hyv.cell (i := 3) rfl
      have mu4 := hyu.cell (i := 4) rfl
      have mv4 := hyv.cell (i := 4) rfl
      clear hb hyu hyv HB HX0 HX1 HD cb cb1 cb2 ggu ggv lu0 lv0 lu1 lv1 lu2 lv2 lu3 lv3 lu4 lv4
      cases bi with
      | false =>
        have hq : b = false := by rw [← HG2.out, HA.out]; simp
        subst hq
        clear HG2 HA
        go_wp2
        go_ret
        exact ⟨rfl, HB3.out⟩
      | true =>
        cases bs with
        | false =>
          have hq : b = false := by rw [← HG2.out, HA.out]; simp
          subst hq
          clear HG2 HA
          go_wp2
          go_ret
          exact ⟨rfl, HB3.out⟩
        | true =>
          cases ba with
          | false =>
            have hq : b = false := by rw [← HG2.out, HA.out]; simp
            subst hq
            clear HG2 HA
            go_wp2
            go_ret
            exact ⟨rfl, HB3.out⟩
          | true =>
            cases br with
            | false =>
              have hq : b = false := by rw [← HG2.out, HA.out]; simp
              subst hq
              clear HG2 HA
              go_wp2
              go_ret
              exact ⟨rfl, HB3.out⟩
            | true =>
              have HG3 : RowKit.Hid (decide ((Vs.drop (j + 1)).map vS = (Ws.drop (j + 1)).map vS ∧ Es = Fs) = b) := Lib.hid (by
                rw [← HG2.out, HA.out]
                simp)
              clear HG2 HA
              go_wp2
              go_roundw
              case rel => exact ⟨j + 1, by omega, by go_num, HB3, HX03, HX13, HG3⟩
              case measure => simp [intOf]; omega
    · obtain rfl : n = j := by omega
      have HG4 : RowKit.Hid (decide (Es.drop 0 = Fs.drop 0) = b) := Lib.hid (by
        rw [← HG.out, List.drop_eq_nil_of_le (show Vs.length ≤ n by have := Hlu.out; omega), List.drop_eq_nil_of_le (show Ws.length ≤ n by have := Hlv.out; omega)]
        simp)
      clear HG
      go_wp2
      clear cb
      go_loopw [9] (fun si wr => ∃ j : Nat, j ≤ m ∧ si = .int .i64 j ∧ RowKit.Hid (Below w.heap.size w wr) ∧ RowKit.Hid (Whole wr b0 25 [.slice A n c, .slice B m k]) ∧ RowKit.Hid (Whole wr b1 25 [.slice A' n c', .slice B' m k']) ∧ RowKit.Hid (decide (Es.drop j = Fs.drop j) = b)) (fun si _ => m - (intOf si).toNat)
      case atStart => exact ⟨0, by omega, rfl, HB, HX0, HX1, HG4⟩
      case round =>
        clear HB HX0 HX1 HG4
        obtain ⟨j, hj2, rfl, HB, HX0, HX1, HG⟩ := hrel
        obtain ⟨wi, gwi⟩ : ∃ z, wr = z := ⟨_, rfl⟩
        rw [gwi] at HB HX0 HX1 ⊢
        clear gwi
        have cb := HX0.out.cell (i := 1) rfl
        by_cases hjm : j < m
        · obtain ⟨xu, hxu⟩ : ∃ x, Es[j]? = some x := ⟨_, List.getElem?_eq_getElem (by have := Hleu.out; omega)⟩
          obtain ⟨xv, hxv⟩ : ∃ x, Fs[j]? = some x := ⟨_, List.getElem?_eq_getElem (by have := Hlev.out; omega)⟩
          have hg := HG.out
          rw [List.drop_eq_getElem_cons (List.getElem?_eq_some_iff.1 hxu).1, (List.getElem?_eq_some_iff.1 hxu).2, List.drop_eq_getElem_cons (List.getElem?_eq_some_iff.1 hxv).1, (List.getElem?_eq_some_iff.1 hxv).2] at hg
          simp only [List.cons.injEq] at hg
          have HG2 := Lib.hid hg
          have hne := fun W => edge_ne xu xv W
          obtain ⟨bs, gbs⟩ : ∃ z, decide (xu = xv) = z := ⟨_, rfl⟩
          rw [gbs] at hne
          have Gbs := Lib.hid gbs
          obtain ⟨bbu, offu, rfl, hbBu, hplu⟩ := HEu.out.place eC_len (by decide) (by omega)
          obtain ⟨bbv, offv, rfl, hbBv, hplv⟩ := HEv.out.place eC_len (by decide) (by omega)
          have HCu := Lib.hid (cells_at (bel_dr HB.out) hbBu (hplu j xu hxu))
          have HCv := Lib.hid (cells_at (bel_dr HB.out) hbBv (hplv j xv hxv))
          clear hxu hxv hg hplu hplv hbBu hbBv HG gbs
          go_upto_region 14 with fail
          clear cb
          have ldu : ∀ w', Kept Nil_ wi.drew w' → w'.cell? ⟨b0, 1, none⟩ = some (.slice (some ⟨bbu, offu, none⟩) m k) := fun w' h => h.nil_cell (HX0.out.dr.cell (i := 1) rfl)
          have ldv : ∀ w', Kept Nil_ wi.drew w' → w'.cell? ⟨b1, 1, none⟩ = some (.slice (some ⟨bbv, offv, none⟩) m k') := fun w' h => h.nil_cell (HX1.out.dr.cell (i := 1) rfl)
          refine wp_region_reg (Nil_) (by kernel_rfl) ?_
          apply wpR_next 0 (some 78)
          · simp only [List.getElem?_toArray, List.getElem?_cons_succ, List.getElem?_cons_zero]; exact rfl
          · rfl
          · kernel_rfl
          · kernel_rfl
          · kernel_rfl
          · exact fun _ _ _ _ h => h
          apply Exists.intro
          apply And.intro
          · apply yr_run; rfl; intro w' hw'; go_simp; (try with_reducible rfl)
          simp only [Act.put, List.setIfInBounds_toArray, List.set_cons_zero, List.set_cons_succ]
          apply wpR_next 1 (some 79)
          · simp only [List.getElem?_toArray, List.getElem?_cons_succ, List.getElem?_cons_zero]; exact rfl
          · rfl
          · kernel_rfl
          · kernel_rfl
          · kernel_rfl
          · exact fun _ _ _ _ h => h
          apply Exists.intro
          apply And.intro
          · apply yr_run; rfl; intro w' hw'; go_simp; (try with_reducible rfl)
          simp only [Act.put, List.setIfInBounds_toArray, List.set_cons_zero, List.set_cons_succ]
          apply wpR_next 2 (some 80)
          · simp only [List.getElem?_toArray, List.getElem?_cons_succ, List.getElem?_cons_zero]; exact rfl
          · rfl
          · kernel_rfl
          · kernel_rfl
          · kernel_rfl
          · exact fun _ _ _ _ h => h
          apply Exists.intro
          apply And.intro
          · apply yr_run; rfl; intro w' hw'; go_simp; (try with_reducible rfl)
          simp only [Act.put, List.setIfInBounds_toArray, List.set_cons_zero, List.set_cons_succ]
          apply wpR_next 3 (some 81)
          · simp only [List.getElem?_toArray, List.getElem?_cons_succ, List.getElem?_cons_zero]; exact rfl
          · rfl
          · kernel_rfl
          · kernel_rfl
          · kernel_rfl
          · exact fun _ _ _ _ h => h
          apply Exists.intro
          apply And.intro
          · apply yr_run; rfl; intro w' hw'; go_simp; (try with_reducible rfl)
          simp only [Act.put, List.setIfInBounds_toArray, List.set_cons_zero, List.set_cons_succ]
          apply wpR_next 4 (some 82)
          · simp only [List.getElem?_toArray, List.getElem?_cons_succ, List.getElem?_cons_zero]; exact rfl
          · rfl
          · kernel_rfl
          · kernel_rfl
          · kernel_rfl
          · exact fun _ _ _ _ h => h
          apply Exists.intro
          apply And.intro
          · exact yr_load_at (by rfl) 43 (.tmp 81) rfl ⟨bbu, offu + j * 4, none⟩ rfl (eC xu) _ HCu.out Try.underlying43 rfl (by kernel_rfl)
          simp only [Act.put, List.setIfInBounds_toArray, List.set_cons_zero, List.set_cons_succ]
          apply wpR_next 5 (some 83)
          · simp only [List.getElem?_toArray, List.getElem?_cons_succ, List.getElem?_cons_zero]; exact rfl
          · rfl
          · kernel_rfl
          · kernel_rfl
          · kernel_rfl
          · exact fun _ _ _ _ h => h
          apply Exists.intro
          apply And.intro
          · apply yr_run; rfl; intro w' hw'; go_simp; (try with_reducible rfl)
          simp only [Act.put, List.setIfInBounds_toArray, List.set_cons_zero, List.set_cons_succ]
          apply wpR_next 6 (some 84)
          · simp only [List.getElem?_toArray, List.getElem?_cons_succ, List.getElem?_cons_zero]; exact rfl
          · rfl
          · kernel_rfl
          · kernel_rfl
          · kernel_rfl
          · exact fun _ _ _ _ h => h
          apply Exists.intro
          apply And.intro
          · apply yr_run; rfl; intro w' hw'; go_simp; (try with_reducible rfl)
          simp only [Act.put, List.setIfInBounds_toArray, List.set_cons_zero, List.set_cons_succ]
          apply wpR_next 7 (some 85)
          · simp only [List.getElem?_toArray, List.getElem?_cons_succ, List.getElem?_cons_zero]; exact rfl
          · rfl
          · kernel_rfl
          · kernel_rfl
          · kernel_rfl
          · exact fun _ _ _ _ h => h
          apply Exists.intro
          apply And.intro
          · apply yr_run; rfl; intro w' hw'; go_simp; (try with_reducible rfl)
          simp only [Act.put, List.setIfInBounds_toArray, List.set_cons_zero, List.set_cons_succ]
          apply wpR_next 8 (some 86)
          · simp only [List.getElem?_toArray, List.getElem?_cons_succ, List.getElem?_cons_zero]; exact rfl
          · rfl
          · kernel_rfl
          · kernel_rfl
          · kernel_rfl
          · exact fun _ _ _ _ h => h
          apply Exists.intro
          apply And.intro
          · apply yr_run; rfl; intro w' hw'; go_simp; (try with_reducible rfl)
          simp only [Act.put, List.setIfInBounds_toArray, List.set_cons_zero, List.set_cons_succ]
          apply wpR_next 9 (some 87)
          · simp only [List.getElem?_toArray, List.getElem?_cons_succ, List.getElem?_cons_zero]; exact rfl
          · rfl
          · kernel_rfl
          · kernel_rfl
          · kernel_rfl
          · exact fun _ _ _ _ h => h
          apply Exists.intro
          apply And.intro
          · exact yr_load_at (by rfl) 43 (.tmp 86) rfl ⟨bbv, offv + j * 4, none⟩ rfl (eC xv) _ HCv.out Try.underlying43 rfl (by kernel_rfl)
          simp only [Act.put, List.setIfInBounds_toArray, List.set_cons_zero, List.set_cons_succ]
          apply wpR_next 10 (some 88)
          · simp only [List.getElem?_toArray, List.getElem?_cons_succ, List.getElem?_cons_zero]; exact rfl
          · rfl
          · kernel_rfl
          · kernel_rfl
          · kernel_rfl
          · exact fun _ _ _ _ h => h
          apply Exists.intro
          apply And.intro
          · exact yr_run (by rfl) (fun w' hw' => exec_binop_agg .neq 43 (.tmp 82) (.tmp 87) 43 rfl rfl rfl (by kernel_rfl) (hne w'))
          simp only [Act.put, List.setIfInBounds_toArray, List.set_cons_zero, List.set_cons_succ]
          refine wpR_done (by kernel_rfl) ?_ _
          intro W3 hw3
          have HB3 : RowKit.Hid (Below w.heap.size w W3) := Lib.hid (bel_bl (bel_dr HB.out) hw3)
          have HX03 := Lib.hid (HX0.out.dr.bl hw3)
          have HX13 := Lib.hid (HX1.out.dr.bl hw3)
          clear hw3 hne HCu HCv ldu ldv HX0 HX1 HB
          cases bs with
          | false =>
            have hq : b = false := by
              rw [← HG2.out]
              exact decide_eq_false (fun e => of_decide_eq_false Gbs.out e.1)
            subst hq
            clear HG2
            go_wp2
            go_ret
            exact ⟨rfl, HB3.out⟩
          | true =>
            have HG3 : RowKit.Hid (decide (Es.drop (j + 1) = Fs.drop (j + 1)) = b) := Lib.hid (by
              rw [← HG2.out, decide_eq_decide]
              exact ⟨fun e => ⟨of_decide_eq_true Gbs.out, e⟩, fun e => e.2⟩)
            clear HG2
            go_wp2
            go_roundw
            case rel => exact ⟨j + 1, by omega, by go_num, HB3, HX03, HX13, HG3⟩
            case measure => simp [intOf]; omega
        · obtain rfl : m = j := by omega
          have hq : b = true := by
            rw [← HG.out, List.drop_eq_nil_of_le (by have := Hleu.out; omega), List.drop_eq_nil_of_le (by have := Hlev.out; omega)]
            rfl
          subst hq
          clear HG
          go_wp2
          go_ret
          exact ⟨rfl, HB.out⟩
end Go.Proofs.Ytdhglhcpgmfpoaa
