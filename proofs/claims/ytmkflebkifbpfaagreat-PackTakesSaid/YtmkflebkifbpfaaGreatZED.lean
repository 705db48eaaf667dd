/- Several texts in one. -/
import Derived.Test.YtmkflebkifbpfaaGreatZEA
import Derived.Test.YtmkflebkifbpfaaGreatZEC
import Derived.Test.YtmkflebkifbpfaaGreatZEB
import Derived.RangeFuncNested
import Derived.RangeFuncBound
import Derived.RangeFuncCalls
import Derived.RangeFuncLeaves
import Derived.WalkKit
import Derived.OwnWalkIn
import Derived.Maps.OwnSet
/- The document's Same. -/
set_option linter.unusedSimpArgs false
set_option linter.unusedVariables false
set_option linter.unusedSectionVars false
namespace Go.Proofs.YtmkflebkifbpfaaGreat
open Go.RowKit
set_option maxRecDepth 100000 in
set_option maxHeartbeats 4000000 in
theorem rsame_any (A : Option Addr) (n c : Nat) (Vs : List VC) (B : Option Addr) (m k : Nat) (Es : List EC) (A' : Option Addr) (n' c' : Nat) (Ws : List VC) (B' : Option Addr) (m' k' : Nat) (Fs : List EC) (w : World)
    (h : DgIn w A n c Vs B m k Es) (h' : DgIn w A' n' c' Ws B' m' k' Fs) (hn : n ≤ 1000000) (hm : m ≤ 1000000) :
    Calls Tryz.prog 11 #[.agg #[.slice A n c, .slice B m k], .agg #[.slice A' n' c', .slice B' m' k']] w fun e w' => e = .returned (.bool (decide (Vs.map vS = Ws.map vS ∧ Es = Fs))) ∧ Below w.heap.size w w' := by
  have Hu := Lib.hid h.v
  have Hv := Lib.hid h'.v
  have HEu := Lib.hid h.e
  have HEv := Lib.hid h'.e
  have HRu := Lib.hid h.r
  have HRv := Lib.hid h'.r
  have hlu := h.v.rlen vC_len (by decide)
  have hlv := h'.v.rlen vC_len (by decide)
  have heu := h.e.rlen eC_len (by decide)
  have hev := h'.e.rlen eC_len (by decide)
  have Hlu := Lib.hid hlu
  have Hlv := Lib.hid hlv
  have Hleu := Lib.hid heu
  have Hlev := Lib.hid hev
  obtain ⟨b, gb⟩ : ∃ z, decide (Vs.map vS = Ws.map vS ∧ Es = Fs) = z := ⟨_, rfl⟩
  rw [gb]
  have HG := Lib.hid gb
  have HB2 := Lib.hid (below2 w (.cells #[.slice A n c, .slice B m k] 25) (.cells #[.slice A' n' c', .slice B' m' k'] 25))
  by_cases hnn : n = n'
  case neg =>
    have hq : b = false := by
      rw [← gb]
      refine decide_eq_false (fun e => hnn ?_)
      have := congrArg List.length e.1
      simp at this
      omega
    subst hq
    have hne : ((n : Int) != (n' : Int)) = true := by simp; omega
    have hne2 : ((n : Int) == (n' : Int)) = false := by simp; omega
    clear h h' gb HG hlu hlv heu hev
    go_enter Tryz.func11, Tryz.ntmps11
    go_wp2
    go_ret
    exact ⟨rfl, HB2.out⟩
  by_cases hmm : m = m'
  case neg =>
    have hq : b = false := by
      rw [← gb]
      refine decide_eq_false (fun e => hmm ?_)
      have := congrArg List.length e.2
      omega
    subst hq hnn
    have hne : ((m : Int) != (m' : Int)) = true := by simp; omega
    have hne2 : ((m : Int) == (m' : Int)) = false := by simp; omega
    clear h h' gb HG hlu hlv heu hev
    go_enter Tryz.func11, Tryz.ntmps11
    go_wp2
    go_ret
    exact ⟨rfl, HB2.out⟩
  subst hnn hmm
  clear h h' gb hlu hlv heu hev HB2
  go_enter Tryz.func11, Tryz.ntmps11
  go_wp2
  have hx0 : Whole ((w.alloc (.cells #[.slice A n c, .slice B m k] 25)).alloc (.cells #[.slice A' n c', .slice B' m k'] 25)) (w.heap.size) 25 [.slice A n c, .slice B m k] := ((Whole.new_ w 25 [.slice A n c, .slice B m k]).alloc (.cells #[.slice A' n c', .slice B' m k'] 25))
  have hx1 : Whole ((w.alloc (.cells #[.slice A n c, .slice B m k] 25)).alloc (.cells #[.slice A' n c', .slice B' m k'] 25)) (w.heap.size + 1) 25 [.slice A' n c', .slice B' m k'] := (Whole.new2 (w := (w.alloc (.cells #[.slice A n c, .slice B m k] 25))) (by simp))
  have hbl : Below w.heap.size w ((w.alloc (.cells #[.slice A n c, .slice B m k] 25)).alloc (.cells #[.slice A' n c', .slice B' m k'] 25)) := (bel_al (below1 w (.cells #[.slice A n c, .slice B m k] 25)) (.cells #[.slice A' n c', .slice B' m k'] 25))
  have hsz : w.heap.size + 1 + 1 ≤ (((w.alloc (.cells #[.slice A n c, .slice B m k] 25)).alloc (.cells #[.slice A' n c', .slice B' m k'] 25))).heap.size := by simp
  obtain ⟨W0, gW0⟩ : ∃ z, ((w.alloc (.cells #[.slice A n c, .slice B m k] 25)).alloc (.cells #[.slice A' n c', .slice B' m k'] 25)) = z := ⟨_, rfl⟩
  rw [gW0] at hx0 hx1 hbl hsz
  obtain ⟨b1, gb1⟩ : ∃ z, w.heap.size + 1 = z := ⟨_, rfl⟩
  rw [gb1] at hx1
  obtain ⟨b0, gb0⟩ : ∃ z, w.heap.size = z := ⟨_, rfl⟩
  rw [gb0] at hx0
  have HX0 := Lib.hid hx0
  have HX1 := Lib.hid hx1
  have HB0 := Lib.hid hbl
  have HS0 := Lib.hid hsz
  have Gb0 := Lib.hid gb0
  have Lb0 : RowKit.Hid (w.heap.size ≤ b0) := Lib.hid (by omega)
  have Gb1 := Lib.hid gb1
  have Lb1 : RowKit.Hid (w.heap.size ≤ b1) := Lib.hid (by omega)
  have N01 : RowKit.Hid (b0 ≠ b1) := Lib.hid (by omega)
  rw [gW0, gb1, gb0]
  clear gW0 hbl hsz hx0 hx1 gb0 gb1
  go_loopw [5] (fun si wr => ∃ j : Nat, j ≤ n ∧ si = .int .i64 j ∧ RowKit.Hid (Below w.heap.size w wr) ∧ RowKit.Hid (Whole wr b0 25 [.slice A n c, .slice B m k]) ∧ RowKit.Hid (Whole wr b1 25 [.slice A' n c', .slice B' m k']) ∧ RowKit.Hid (decide ((Vs.drop j).map vS = (Ws.drop j).map vS ∧ Es = Fs) = b)) (fun si _ => n - (intOf si).toNat)
  case atStart => exact ⟨0, by omega, rfl, HB0, HX0, HX1, HG⟩
  case round =>
    clear HB0 HX0 HX1 HG
    obtain ⟨j, hj, rfl, HB, HX0, HX1, HG⟩ := hrel
    obtain ⟨wo, gwo⟩ : ∃ z, wr = z := ⟨_, rfl⟩
    rw [gwo] at HB HX0 HX1 ⊢
    clear gwo
    have cb := HX0.out.cell (i := 0) rfl
    by_cases hjn : j < n
    · obtain ⟨xu, hxu⟩ : ∃ x, Vs[j]? = some x := ⟨_, List.getElem?_eq_getElem (by have := Hlu.out; omega)⟩
      obtain ⟨xv, hxv⟩ : ∃ x, Ws[j]? = some x := ⟨_, List.getElem?_eq_getElem (by have := Hlv.out; omega)⟩
      have hg := HG.out
      rw [List.drop_eq_getElem_cons (List.getElem?_eq_some_iff.1 hxu).1, (List.getElem?_eq_some_iff.1 hxu).2, List.drop_eq_getElem_cons (List.getElem?_eq_some_iff.1 hxv).1, (List.getElem?_eq_some_iff.1 hxv).2] at hg
      simp only [List.map_cons, List.cons.injEq] at hg
      have hru := HRu.out xu (List.mem_of_getElem? hxu)
      have hrv := HRv.out xv (List.mem_of_getElem? hxv)
      obtain ⟨bbu, offu, rfl, hbBu, hplu⟩ := Hu.out.place vC_len (by decide) (by omega)
      obtain ⟨bbv, offv, rfl, hbBv, hplv⟩ := Hv.out.place vC_len (by decide) (by omega)
      have hbw := HB.out
      have q0 := hplu j _ hxu 0 _ rfl
      have q1 := hplu j _ hxu 1 _ rfl
      have q2 := hplu j _ hxu 2 _ rfl
      have q3 := hplu j _ hxu 3 _ rfl
      have q4 := hplu j _ hxu 4 _ rfl
      simp only [Addr.add_lit, Nat.add_zero] at q0 q1 q2 q3 q4
      have lu0 := (hbw.cell (p := ⟨bbu, offu + j * 5, none⟩) hbBu).trans q0
      have lu1 := (hbw.cell (p := ⟨bbu, offu + j * 5 + 1, none⟩) hbBu).trans q1
      have lu2 := (hbw.cell (p := ⟨bbu, offu + j * 5 + 2, none⟩) hbBu).trans q2
      have lu3 := (hbw.cell (p := ⟨bbu, offu + j * 5 + 3, none⟩) hbBu).trans q3
      have lu4 := (hbw.cell (p := ⟨bbu, offu + j * 5 + 4, none⟩) hbBu).trans q4
      clear hbw q0 q1 q2 q3 q4
      have hbw := bel_al HB.out (.cells (vC xu).toArray 47)
      have q0 := hplv j _ hxv 0 _ rfl
      have q1 := hplv j _ hxv 1 _ rfl
      have q2 := hplv j _ hxv 2 _ rfl
      have q3 := hplv j _ hxv 3 _ rfl
      have q4 := hplv j _ hxv 4 _ rfl
      simp only [Addr.add_lit, Nat.add_zero] at q0 q1 q2 q3 q4
      have lv0 := (hbw.cell (p := ⟨bbv, offv + j * 5, none⟩) hbBv).trans q0
      have lv1 := (hbw.cell (p := ⟨bbv, offv + j * 5 + 1, none⟩) hbBv).trans q1
      have lv2 := (hbw.cell (p := ⟨bbv, offv + j * 5 + 2, none⟩) hbBv).trans q2
      have lv3 := (hbw.cell (p := ⟨bbv, offv + j * 5 + 3, none⟩) hbBv).trans q3
      have lv4 := (hbw.cell (p := ⟨bbv, offv + j * 5 + 4, none⟩) hbBv).trans q4
      clear hbw q0 q1 q2 q3 q4
      obtain ⟨⟨i1, i2⟩, ⟨rA, rn, rc, rL⟩, lb, at_⟩ := xu
      obtain ⟨⟨j1, j2⟩, ⟨sA, sn, sc, sL⟩, kb, bt_⟩ := xv
      dsimp only [vC] at lv0 lv1 lv2 lv3 lv4
      have hR : RdS w w.heap.size 3 rA rn rc (dartsV rL) := hru.2
      have hS : RdS w w.heap.size 3 sA sn sc (dartsV sL) := hrv.2
      have hrc : rn ≤ 9223372036854775807 := Nat.le_trans (Nat.le_trans hR.le hru.1) (by unfold maxLen; omega)
      have HD := Lib.hid (fun W (hb : Below w.heap.size w W) => rdarts_any rA sA rn sn rc sc rL sL W (hR.bl hb) (hS.bl hb) hrc)
      obtain ⟨br, gbr⟩ : ∃ z, decide (rL = sL) = z := ⟨_, rfl⟩
      rw [gbr] at HD
      have hid : ∀ W, (binOp .neq 41 (.agg #[.int .i64 i1, .int .i64 i2]) (.agg #[.int .i64 j1, .int .i64 j2])).run Tryz.prog W = .ok (.bool (!decide ((i1, i2) = (j1, j2)))) W := fun W => neq_id (i1, i2) (j1, j2) W
      obtain ⟨bi, gbi⟩ : ∃ z, decide ((i1, i2) = (j1, j2)) = z := ⟨_, rfl⟩
      rw [gbi] at hid
      have hst := bytes_beq lb kb
      obtain ⟨bs, gbs⟩ : ∃ z, decide (lb = kb) = z := ⟨_, rfl⟩
      rw [gbs] at hst
      obtain ⟨ba, gba⟩ : ∃ z, (at_ == bt_) = z := ⟨_, rfl⟩
      have gba2 : (at_ != bt_) = !ba := by rw [← gba]; rfl
      have hall : decide (vS ((i1, i2), (rA, rn, rc, rL), lb, at_) = vS ((j1, j2), (sA, sn, sc, sL), kb, bt_)) = (bi && bs && ba && br) := by
        rw [← gbi, ← gbs, ← gba, ← gbr, Bool.eq_iff_iff]
        simp only [vS, decide_eq_true_eq, Prod.mk.injEq, Bool.and_eq_true, beq_iff_eq]
        constructor
        · rintro ⟨⟨h1, h2⟩, h3, h4, h5⟩; exact ⟨⟨⟨⟨h1, h2⟩, h4⟩, h5⟩, h3⟩
        · rintro ⟨⟨⟨⟨h1, h2⟩, h4⟩, h5⟩, h3⟩; exact ⟨⟨h1, h2⟩, h3, h4, h5⟩
      have HG2 : RowKit.Hid ((decide (vS ((i1, i2), (rA, rn, rc, rL), lb, at_) = vS ((j1, j2), (sA, sn, sc, sL), kb, bt_)) && decide ((Vs.drop (j + 1)).map vS = (Ws.drop (j + 1)).map vS ∧ Es = Fs)) = b) := Lib.hid (by
        rw [← hg, ← Bool.decide_and, decide_eq_decide, and_assoc])
      have HA := Lib.hid hall
      have cb1 := HX1.out.cell (i := 0) rfl
      have cb2 := (HX1.out.alloc (.cells #[.int .i64 i1, .int .i64 i2, .slice rA rn rc, .string lb, .int .i64 at_] 47)).cell (i := 0) rfl
      clear hxu hxv hg hplu hplv hbBu hbBv HG hru hrv hR hS hrc gbr gbi gbs hall
      go_wp2_with fail
      refine (HD.out _ (bel_al (bel_al HB.out (.cells #[.int .i64 i1, .int .i64 i2, .slice rA rn rc, .string lb, .int .i64 at_] 47)) (.cells #[.int .i64 j1, .int .i64 j2, .slice sA sn sc, .string kb, .int .i64 bt_] 47))).mono ?_
      rintro e W3 ⟨rfl, hb⟩
      have HB3 : RowKit.Hid (Below w.heap.size w W3) := Lib.hid (bel_bl (bel_al (bel_al HB.out _) _) hb)
      have HX03 := Lib.hid (((HX0.out.alloc (.cells #[.int .i64 i1, .int .i64 i2, .slice rA rn rc, .string lb, .int .i64 at_] 47)).alloc (.cells #[.int .i64 j1, .int .i64 j2, .slice sA sn sc, .string kb, .int .i64 bt_] 47)).bl hb)
      have HX13 := Lib.hid (((HX1.out.alloc (.cells #[.int .i64 i1, .int .i64 i2, .slice rA rn rc, .string lb, .int .i64 at_] 47)).alloc (.cells #[.int .i64 j1, .int .i64 j2, .slice sA sn sc, .string kb, .int .i64 bt_] 47)).bl hb)
      have hyu := ((Whole.new_ wo 47 [.int .i64 i1, .int .i64 i2, .slice rA rn rc, .string lb, .int .i64 at_]).alloc (.cells #[.int .i64 j1, .int .i64 j2, .slice sA sn sc, .string kb, .int .i64 bt_] 47)).bl hb
      have hyv : Whole W3 (wo.heap.size + 1) 47 [.int .i64 j1, .int .i64 j2, .slice sA sn sc, .string kb, .int .i64 bt_] := (show Whole ((wo.alloc (.cells #[.int .i64 i1, .int .i64 i2, .slice rA rn rc, .string lb, .int .i64 at_] 47)).alloc (.cells #[.int .i64 j1, .int .i64 j2, .slice sA sn sc, .string kb, .int .i64 bt_] 47)) (wo.heap.size + 1) 47 [.int .i64 j1, .int .i64 j2, .slice sA sn sc, .string kb, .int .i64 bt_] from Whole.new2 (by simp)).bl hb
      obtain ⟨gu, ggu⟩ : ∃ z, wo.heap.size = z := ⟨_, rfl⟩
      obtain ⟨gv, ggv⟩ : ∃ z, wo.heap.size + 1 = z := ⟨_, rfl⟩
      rw [ggv] at hyv
      rw [ggu] at hyu
      try rw [ggv]
      try rw [ggu]
      have mu0 := hyu.cell (i := 0) rfl
      have mv0 := hyv.cell (i := 0) rfl
      have mu1 := hyu.cell (i := 1) rfl
      have mv1 := hyv.cell (i := 1) rfl
      have mu3 := hyu.cell (i := 3) rfl
      have mv3 := hyv.cell (i := 3) rfl
      have mu4 := hyu.cell (i := 4) rfl
      have mv4 := hyv.cell (i := 4) rfl
      clear hb hyu hyv HB HX0 HX1 HD cb cb1 cb2 ggu ggv lu0 lv0 lu1 lv1 lu2 lv2 lu3 lv3 lu4 lv4
      cases bi with
      | false =>
        have hq : b = false := by rw [← HG2.out, HA.out]; simp
        subst hq
        clear HG2 HA
        go_wp2
        go_ret
        exact ⟨rfl, HB3.out⟩
      | true =>
        cases bs with
        | false =>
          have hq : b = false := by rw [← HG2.out, HA.out]; simp
          subst hq
          clear HG2 HA
          go_wp2
          go_ret
          exact ⟨rfl, HB3.out⟩
        | true =>
          cases ba with
          | false =>
            have hq : b = false := by rw [← HG2.out, HA.out]; simp
            subst hq
            clear HG2 HA
            go_wp2
            go_ret
            exact ⟨rfl, HB3.out⟩
          | true =>
            cases br with
            | false =>
              have hq : b = false := by rw [← HG2.out, HA.out]; simp
              subst hq
              clear HG2 HA
              go_wp2
              go_ret
              exact ⟨rfl, HB3.out⟩
            | true =>
              have HG3 : RowKit.Hid (decide ((Vs.drop (j + 1)).map vS = (Ws.drop (j + 1)).map vS ∧ Es = Fs) = b) := Lib.hid (by
                rw [← HG2.out, HA.out]
                simp)
              clear HG2 HA
              go_wp2
              go_roundw
              case rel => exact ⟨j + 1, by omega, by go_num, HB3, HX03, HX13, HG3⟩
              case measure => simp [intOf]; omega
    · obtain rfl : n = j := by omega
      have HG4 : RowKit.Hid (decide (Es.drop 0 = Fs.drop 0) = b) := Lib.hid (by
        rw [← HG.out, List.drop_eq_nil_of_le (show Vs.length ≤ n by have := Hlu.out; omega), List.drop_eq_nil_of_le (show Ws.length ≤ n by have := Hlv.out; omega)]
        simp)
      clear HG
      go_wp2
      clear cb
      go_loopw [9] (fun si wr => ∃ j : Nat, j ≤ m ∧ si = .int .i64 j ∧ RowKit.Hid (Below w.heap.size w wr) ∧ RowKit.Hid (Whole wr b0 25 [.slice A n c, .slice B m k]) ∧ RowKit.Hid (Whole wr b1 25 [.slice A' n c', .slice B' m k']) ∧ RowKit.Hid (decide (Es.drop j = Fs.drop j) = b)) (fun si _ => m - (intOf si).toNat)
      case atStart => exact ⟨0, by omega, rfl, HB, HX0, HX1, HG4⟩
      case round =>
        clear HB HX0 HX1 HG4
        obtain ⟨j, hj2, rfl, HB, HX0, HX1, HG⟩ := hrel
        obtain ⟨wi, gwi⟩ : ∃ z, wr = z := ⟨_, rfl⟩
        rw [gwi] at HB HX0 HX1 ⊢
        clear gwi
        have cb := HX0.out.cell (i := 1) rfl
        by_cases hjm : j < m
        · obtain ⟨xu, hxu⟩ : ∃ x, Es[j]? = some x := ⟨_, List.getElem?_eq_getElem (by have := Hleu.out; omega)⟩
          obtain ⟨xv, hxv⟩ : ∃ x, Fs[j]? = some x := ⟨_, List.getElem?_eq_getElem (by have := Hlev.out; omega)⟩
          have hg := HG.out
          rw [List.drop_eq_getElem_cons (List.getElem?_eq_some_iff.1 hxu).1, (List.getElem?_eq_some_iff.1 hxu).2, List.drop_eq_getElem_cons (List.getElem?_eq_some_iff.1 hxv).1, (List.getElem?_eq_some_iff.1 hxv).2] at hg
          simp only [List.cons.injEq] at hg
          have HG2 := Lib.hid hg
          have hne := fun W => edge_ne xu xv W
          obtain ⟨bs, gbs⟩ : ∃ z, decide (xu = xv) = z := ⟨_, rfl⟩
          rw [gbs] at hne
          have Gbs := Lib.hid gbs
          obtain ⟨bbu, offu, rfl, hbBu, hplu⟩ := HEu.out.place eC_len (by decide) (by omega)
          obtain ⟨bbv, offv, rfl, hbBv, hplv⟩ := HEv.out.place eC_len (by decide) (by omega)
          have HCu := Lib.hid (cells_at (bel_dr HB.out) hbBu (hplu j xu hxu))
          have HCv := Lib.hid (cells_at (bel_dr HB.out) hbBv (hplv j xv hxv))
          clear hxu hxv hg hplu hplv hbBu hbBv HG gbs
          go_upto_region 14 with fail
          clear cb
          have ldu : ∀ w', Kept Nil_ wi.drew w' → w'.cell? ⟨b0, 1, none⟩ = some (.slice (some ⟨bbu, offu, none⟩) m k) := fun w' h => h.nil_cell (HX0.out.dr.cell (i := 1) rfl)
          have ldv : ∀ w', Kept Nil_ wi.drew w' → w'.cell? ⟨b1, 1, none⟩ = some (.slice (some ⟨bbv, offv, none⟩) m k') := fun w' h => h.nil_cell (HX1.out.dr.cell (i := 1) rfl)
          refine wp_region_reg (Nil_) (by kernel_rfl) ?_
          refine opR_ 0 78 (v := ?_) ?_ ?_; rotate_left
          · intro w' hw'; go_simp; (try with_reducible rfl)
          simp only [st0_, st1_]
          refine opR_ 1 79 (v := ?_) ?_ ?_; rotate_left
          · intro w' hw'; go_simp; (try with_reducible rfl)
          simp only [st0_, st1_]
          refine opR_ 2 80 (v := ?_) ?_ ?_; rotate_left
          · intro w' hw'; go_simp; (try with_reducible rfl)
          simp only [st0_, st1_]
          refine opR_ 3 81 (v := ?_) ?_ ?_; rotate_left
          · intro w' hw'; go_simp; (try with_reducible rfl)
          simp only [st0_, st1_]
          refine opX_ 4 82 ?_
          apply Exists.intro
          apply And.intro
          · exact yr_load_at (by rfl) 43 (.tmp 81) rfl ⟨bbu, offu + j * 4, none⟩ rfl (eC xu) _ HCu.out Tryz.underlying43 rfl (by kernel_rfl)
          simp only [st0_, st1_]
          refine opR_ 5 83 (v := ?_) ?_ ?_; rotate_left
          · intro w' hw'; go_simp; (try with_reducible rfl)
          simp only [st0_, st1_]
          refine opR_ 6 84 (v := ?_) ?_ ?_; rotate_left
          · intro w' hw'; go_simp; (try with_reducible rfl)
          simp only [st0_, st1_]
          refine opR_ 7 85 (v := ?_) ?_ ?_; rotate_left
          · intro w' hw'; go_simp; (try with_reducible rfl)
          simp only [st0_, st1_]
          refine opR_ 8 86 (v := ?_) ?_ ?_; rotate_left
          · intro w' hw'; go_simp; (try with_reducible rfl)
          simp only [st0_, st1_]
          refine opX_ 9 87 ?_
          apply Exists.intro
          apply And.intro
          · exact yr_load_at (by rfl) 43 (.tmp 86) rfl ⟨bbv, offv + j * 4, none⟩ rfl (eC xv) _ HCv.out Tryz.underlying43 rfl (by kernel_rfl)
          simp only [st0_, st1_]
          refine opX_ 10 88 ?_
          apply Exists.intro
          apply And.intro
          · exact yr_run (by rfl) (fun w' hw' => exec_binop_agg .neq 43 (.tmp 82) (.tmp 87) 43 rfl rfl rfl (by kernel_rfl) (hne w'))
          simp only [st0_, st1_]
          refine wpR_done (by kernel_rfl) ?_ _
          intro W3 hw3
          have HB3 : RowKit.Hid (Below w.heap.size w W3) := Lib.hid (bel_bl (bel_dr HB.out) hw3)
          have HX03 := Lib.hid (HX0.out.dr.bl hw3)
          have HX13 := Lib.hid (HX1.out.dr.bl hw3)
          clear hw3 hne HCu HCv ldu ldv HX0 HX1 HB
          cases bs with
          | false =>
            have hq : b = false := by
              rw [← HG2.out]
              exact decide_eq_false (fun e => of_decide_eq_false Gbs.out e.1)
            subst hq
            clear HG2
            go_wp2
            go_ret
            exact ⟨rfl, HB3.out⟩
          | true =>
            have HG3 : RowKit.Hid (decide (Es.drop (j + 1) = Fs.drop (j + 1)) = b) := Lib.hid (by
              rw [← HG2.out, decide_eq_decide]
              exact ⟨fun e => ⟨of_decide_eq_true Gbs.out, e⟩, fun e => e.2⟩)
            clear HG2
            go_wp2
            go_roundw
            case rel => exact ⟨j + 1, by omega, by go_num, HB3, HX03, HX13, HG3⟩
            case measure => simp [intOf]; omega
        · obtain rfl : m = j := by omega
          have hq : b = true := by
            rw [← HG.out, List.drop_eq_nil_of_le (by have := Hleu.out; omega), List.drop_eq_nil_of_le (by have := Hlev.out; omega)]
            rfl
          subst hq
          clear HG
          go_wp2
          go_ret
          exact ⟨rfl, HB.out⟩
end Go.Proofs.YtmkflebkifbpfaaGreat
/- Clone. -/
namespace Go.Proofs.YtmkflebkifbpfaaGreat
open Go.RowKit
/-- Rings of one's own, each behind the one ahead, from block lo on. -/
structure RgsOwn (W : World) (lo : Nat) (Ws : List VC) : Prop where
  own : ∀ x ∈ Ws, W.ownsRow lo 49 3 (.slice x.2.1.1 x.2.1.2.1 x.2.1.2.2.1) x.2.1.2.1 (dartsV x.2.1.2.2.2)
  rise : ∀ (i j : Nat) (x y : VC) (a b : Addr), i < j → Ws[i]? = some x → Ws[j]? = some y → x.2.1.1 = some a → y.2.1.1 = some b → a.block < b.block
/-- A diagram of one's own. -/
structure Cl (W : World) (lo : Nat) (A : Option Addr) (n c : Nat) (Ws : List VC) (B : Option Addr) (m k : Nat) (Es : List EC) : Prop where
  v : W.ownsRow lo 47 5 (.slice A n c) n (rowsV vC Ws)
  e : W.ownsRow lo 43 4 (.slice B m k) m (rowsV eC Es)
  r : RgsOwn W lo Ws
theorem Cl.dg {W : World} {lo : Nat} {A : Option Addr} {n c : Nat} {Ws : List VC} {B : Option Addr} {m k : Nat} {Es : List EC} (h : Cl W lo A n c Ws B m k Es) : DgIn W A n c Ws B m k Es :=
  ⟨own_rds h.v, own_rds h.e, fun x hx => ⟨own_cap (h.r.own x hx), own_rds (h.r.own x hx)⟩⟩
theorem RgsOwn.up {W W' : World} {lo : Nat} {Ws : List VC} (h : RgsOwn W lo Ws) (hb : Below W.heap.size W W') : RgsOwn W' lo Ws :=
  ⟨fun x hx => own_up (h.own x hx) hb, h.rise⟩
theorem Cl.up {W W' : World} {lo : Nat} {A : Option Addr} {n c : Nat} {Ws : List VC} {B : Option Addr} {m k : Nat} {Es : List EC} (h : Cl W lo A n c Ws B m k Es) (hb : Below W.heap.size W W') : Cl W' lo A n c Ws B m k Es :=
  ⟨own_up h.v hb, own_up h.e hb, h.r.up hb⟩
theorem RgsOwn.cells {W : World} {lo g : Nat} {Ws : List VC} {T : TypeId} {cs : List Value} (h : RgsOwn W lo Ws) (hw : Whole W g T cs) (hT : T ≠ 49) (o : Nat) (vs : List Value) : RgsOwn (W.setCells g o vs) lo Ws :=
  ⟨fun x hx => own_cells_far (h.own x hx) (own_ne (h.own x hx) hw hT) o vs, h.rise⟩
theorem RgsOwn.nil_ (W : World) (lo : Nat) : RgsOwn W lo [] := ⟨fun x hx => (by cases hx), fun i j x y a b _ h => (by simp at h)⟩
end Go.Proofs.YtmkflebkifbpfaaGreat
/- Words for the laws over diagrams. -/
namespace Go.Proofs.YtmkflebkifbpfaaGreat
open Go.RowKit
section
variable {w w' : World} {A B : Option Addr} {n c m k : Nat} {Vs : List VC} {Es : List EC}
theorem DgIn.bl (h : DgIn w A n c Vs B m k Es) (hb : Below w.heap.size w w') : DgIn w' A n c Vs B m k Es := h.below hb
theorem DgIn.al (h : DgIn w A n c Vs B m k Es) (o : Obj) : DgIn (w.alloc o) A n c Vs B m k Es := h.below (below1 w o)
theorem DgIn.dr (h : DgIn w A n c Vs B m k Es) : DgIn w.drew A n c Vs B m k Es := h.below (below_drewN w.heap.size w 1)
theorem DgIn.far (h : DgIn w A n c Vs B m k Es) (g i : Nat) (u : Value) (ha : ∀ a, A = some a → 0 < n → a.block ≠ g) (hb : ∀ a, B = some a → 0 < m → a.block ≠ g) (hr : ∀ x ∈ Vs, ∀ a, x.2.1.1 = some a → 0 < x.2.1.2.1 → a.block ≠ g) :
    DgIn (w.setCell ⟨g, i, none⟩ u) A n c Vs B m k Es := by
  have hs : (w.setCell ⟨g, i, none⟩ u).heap.size = w.heap.size := by simp [World.setCell]
  exact ⟨by rw [hs]; exact h.v.far_ ha u, by rw [hs]; exact h.e.far_ hb u, fun x hx => ⟨(h.r x hx).1, by rw [hs]; exact (h.r x hx).2.far_ (hr x hx) u⟩⟩
end
theorem RgOk.bl {w w' : World} {r : Rg} (h : RgOk w r) (hb : Below w.heap.size w w') : RgOk w' r := h.below hb
theorem RgOk.al {w : World} {r : Rg} (h : RgOk w r) (o : Obj) : RgOk (w.alloc o) r := h.below (below1 w o)
theorem RgOk.dr {w : World} {r : Rg} (h : RgOk w r) : RgOk w.drew r := h.below (below_drewN w.heap.size w 1)
structure GoodD (Vs : List VC) (Es : List EC) : Prop where
  v : ∀ x ∈ Vs, ∀ d ∈ x.2.1.2.2.2, wfD d
  e : ∀ e ∈ Es, wfD (e.1.1, e.1.2, 0) ∧ wfD (e.1.1, e.1.2, 1)
  lv : ∀ x ∈ Vs, x.2.2.1.size ≤ maxLen
  le : ∀ x ∈ Es, x.2.1.size ≤ maxLen
theorem fewV_ring (v : VC) : (fewV v).2.1.1 = v.2.1.1 ∧ (fewV v).2.1.2.1 ≤ 30 ∧ (fewV v).2.1.2.1 ≤ v.2.1.2.1 ∧ (fewV v).1 = v.1 ∧ (fewV v).2.2 = v.2.2 ∧ ∀ d ∈ (fewV v).2.1.2.2.2, d ∈ v.2.1.2.2.2 := by
  unfold fewV
  split
  · exact ⟨rfl, Nat.le_refl _, by show 30 ≤ _; omega, rfl, rfl, fun d hd => List.mem_of_mem_take hd⟩
  · exact ⟨rfl, by omega, Nat.le_refl _, rfl, rfl, fun d hd => hd⟩
theorem GoodD.few {Vs : List VC} {Es : List EC} (h : GoodD Vs Es) : GoodD ((Vs.take 30).map fewV) (Es.take 50) := by
  refine ⟨fun x hx d hd => ?_, fun e he => h.e e (List.mem_of_mem_take he), fun x hx => ?_, fun e he => h.le e (List.mem_of_mem_take he)⟩
  · obtain ⟨y, hy, rfl⟩ := List.mem_map.1 hx
    exact h.v y (List.mem_of_mem_take hy) d ((fewV_ring y).2.2.2.2.2 d hd)
  · obtain ⟨y, hy, rfl⟩ := List.mem_map.1 hx
    have := h.lv y (List.mem_of_mem_take hy)
    rw [(fewV_ring y).2.2.2.2.1]
    exact this
/-- What few tells. -/
structure FewD (w0 W W' : World) (A : Option Addr) (n c : Nat) (Vs : List VC) (B : Option Addr) (m k : Nat) (Es : List EC) : Prop where
  dg : DgIn W' A n c Vs B m k Es
  good : GoodD Vs Es
  n30 : n ≤ 30
  m50 : m ≤ 50
  r30 : ∀ x ∈ Vs, x.2.1.2.1 ≤ 30
  low : ∀ x ∈ Vs, ∀ a, x.2.1.1 = some a → 0 < x.2.1.2.1 → a.block < w0.heap.size
  fresh : FwNew W A n c B m k
  lenv : Vs.length = n
  lene : Es.length = m
/-- The diagram that few told is put into a variable of the call's own. -/
theorem FewD.put {w0 W W' : World} {A B : Option Addr} {n c m k g : Nat} {Vs : List VC} {Es : List EC} (h : FewD w0 W W' A n c Vs B m k Es) (hg0 : w0.heap.size ≤ g) (hg : g < W.heap.size) (u v : Value) :
    DgIn ((W'.setCell ⟨g, 0, none⟩ u).setCell ⟨g, 1, none⟩ v) A n c Vs B m k Es := by
  have ha : ∀ a, A = some a → 0 < n → a.block ≠ g := fun a e h0 => by have := h.fresh.2.2.1 a e h0; omega
  have hb : ∀ a, B = some a → 0 < m → a.block ≠ g := fun a e h0 => by have := h.fresh.2.2.2 a e h0; omega
  have hr : ∀ x ∈ Vs, ∀ a, x.2.1.1 = some a → 0 < x.2.1.2.1 → a.block ≠ g := fun x hx a e h0 => by have := h.low x hx a e h0; omega
  exact (h.dg.far g 0 u ha hb hr).far g 1 v ha hb hr
/-- Another one, of before, behind a store to a variable. -/
theorem DgIn.put {W : World} {A B : Option Addr} {n c m k g : Nat} {Vs : List VC} {Es : List EC} (h : DgIn W A n c Vs B m k Es) (ha : ∀ a, A = some a → 0 < n → a.block ≠ g) (hb : ∀ a, B = some a → 0 < m → a.block ≠ g) (hr : ∀ x ∈ Vs, ∀ a, x.2.1.1 = some a → 0 < x.2.1.2.1 → a.block ≠ g) (u v : Value) :
    DgIn ((W.setCell ⟨g, 0, none⟩ u).setCell ⟨g, 1, none⟩ v) A n c Vs B m k Es := (h.far g 0 u ha hb hr).far g 1 v ha hb hr
end Go.Proofs.YtmkflebkifbpfaaGreat
/- What a diagram that is well formed is, in numbers: names rise, so each is there once; each dart stands in one ring; what one edge less makes of it. -/
namespace Go.Proofs.YtmkflebkifbpfaaGreat
open Go.RowKit
def ordP (a b : Int × Int) : Int := ordI a.1 a.2 b.1 b.2
theorem ordP_lt_trans {a b c : Int × Int} (h : ordP a b < 0) (k : ordP b c < 0) : ordP a c < 0 := by
  unfold ordP at *
  have h1 := ordI_trans a.1 a.2 b.1 b.2 c.1 c.2 (by omega) (by omega)
  have h2 := ordI_zero a.1 a.2 c.1 c.2
  have h3 := ordI_neg a.1 a.2 b.1 b.2
  rcases Int.lt_or_eq_of_le h1 with h4 | h4
  · exact h4
  · obtain ⟨e1, e2⟩ := h2.1 h4
    rw [← e1, ← e2] at k
    omega
theorem ordP_ne {a b : Int × Int} (h : ordP a b < 0) : a ≠ b := by
  rintro rfl
  have := (ordI_zero a.1 a.2 a.1 a.2).2 ⟨rfl, rfl⟩
  unfold ordP at h
  omega
/-- Names that rise, told at once. -/
theorem riseF_iff : ∀ (L : List (Int × Int)) (o : Option (Int × Int)), riseF o L = true ↔ (∀ x ∈ L, mayI x.1 x.2 = true) ∧ (∀ y, o = some y → ∀ x ∈ L, ordP y x < 0) ∧ L.Pairwise (fun a b => ordP a b < 0)
  | [], o => by simp [riseF]
  | x :: r, o => by
    have e : riseF o (x :: r) = (mayI x.1 x.2 && (match o with | none => true | some y => decide (ordI y.1 y.2 x.1 x.2 < 0)) && riseF (some x) r) := by cases o <;> rfl
    rw [e, Bool.and_eq_true, Bool.and_eq_true, riseF_iff r (some x), List.pairwise_cons]
    constructor
    · rintro ⟨⟨h1, h2⟩, h3, h4, h5⟩
      refine ⟨fun y hy => ?_, fun y hy z hz => ?_, h4 x rfl, h5⟩
      · rcases List.mem_cons.1 hy with rfl | hy
        · exact h1
        · exact h3 y hy
      · subst hy
        have h6 : ordP y x < 0 := of_decide_eq_true h2
        rcases List.mem_cons.1 hz with rfl | hz
        · exact h6
        · exact ordP_lt_trans h6 (h4 x rfl z hz)
    · rintro ⟨h1, h2, h3, h4⟩
      refine ⟨⟨h1 x (List.mem_cons_self ..), ?_⟩, fun y hy => h1 y (List.mem_cons_of_mem _ hy), fun y hy z hz => ?_, h4⟩
      · cases o with
        | none => rfl
        | some y => exact decide_eq_true (h2 y rfl x (List.mem_cons_self ..))
      · cases hy
        exact h3 z hz
theorem rise_nodup {L : List (Int × Int)} (h : riseF none L = true) : L.Nodup :=
  List.Pairwise.imp (fun h => ordP_ne h) ((riseF_iff L none).1 h).2.2
theorem edS_len : ∀ (Es : List EC) (S : List D), (Es.map (·.1)).Nodup → (∀ e ∈ Es, (e.1.1, e.1.2, (0 : Int)) ∉ S ∧ (e.1.1, e.1.2, (1 : Int)) ∉ S) → (edS Es S).length = S.length + 2 * Es.length
  | [], S, _, _ => by simp [edS]
  | e :: r, S, hn, hS => by
    rw [List.map_cons, List.nodup_cons] at hn
    have h0 := hS e (List.mem_cons_self ..)
    have e1 : insD (e.1.1, e.1.2, 0) S = (e.1.1, e.1.2, 0) :: S := by rw [insD, if_neg h0.1]
    have e2 : insD (e.1.1, e.1.2, 1) ((e.1.1, e.1.2, 0) :: S) = (e.1.1, e.1.2, 1) :: (e.1.1, e.1.2, 0) :: S := by
      rw [insD, if_neg]
      rw [List.mem_cons]
      rintro (h | h)
      · simp at h
      · exact h0.2 h
    rw [edS, e1, e2, edS_len r _ hn.2 (fun x hx => ?_)]
    · simp only [List.length_cons]; omega
    · have hne : x.1 ≠ e.1 := fun q => hn.1 (q ▸ List.mem_map.2 ⟨x, hx, rfl⟩)
      have hx' := hS x (List.mem_cons_of_mem _ hx)
      have key : ∀ a b : Int, (x.1.1, x.1.2, a) ≠ (e.1.1, e.1.2, b) := fun a b q => by
        simp only [Prod.mk.injEq] at q
        exact hne (Prod.ext q.1 q.2.1)
      refine ⟨fun q => ?_, fun q => ?_⟩ <;> · rcases List.mem_cons.1 q with q | q; exact key _ _ q; rcases List.mem_cons.1 q with q | q; exact key _ _ q; first | exact hx'.1 q | exact hx'.2 q
/-- A diagram that is well formed. -/
structure Formed (Vs : List VC) (Es : List EC) : Prop where
  v24 : Vs.length ≤ 24
  e40 : Es.length ≤ 40
  rv : riseF none (Vs.map (·.1)) = true
  re : riseF none (Es.map (·.1)) = true
  tu : Vs.all turnOk = true
  pm : (ringsOf Vs).Perm (edS Es [])
  lv : Vs.all (fun v => mayL v.2.2.1) = true
  le : Es.all (fun v => mayL v.2.1) = true
  av : Vs.all (fun v => mayA v.2.2.2) = true
  ae : Es.all (fun v => mayA v.2.2) = true
theorem form0 (Vs : List VC) (Es : List EC) : formD Vs Es = 0 ↔ Formed Vs Es := by
  unfold formD formB
  constructor
  · intro h
    split at h
    · cases h
    · rename_i h0
      split at h
      · cases h
      · rename_i h1
        split at h
        · cases h
        · rename_i h2
          split at h
          · cases h
          · rename_i h3
            simp only [decide_eq_true_eq, not_or, Bool.not_eq_true', Bool.not_eq_false, Bool.and_eq_true] at h0 h1 h2 h3
            exact ⟨by omega, by omega, h1.1.1.1, h1.1.1.2, h1.1.2, (onceF_perm _ _).1 h1.2, h2.1, h2.2, h3.1, h3.2⟩
  · intro h
    have e0 : decide (24 < Vs.length ∨ 40 < Es.length) = false := decide_eq_false (by have := h.v24; have := h.e40; omega)
    rw [e0, h.rv, h.re, h.tu, (onceF_perm _ _).2 h.pm, h.lv, h.le, h.av, h.ae]
    rfl
section
variable {Vs : List VC} {Es : List EC}
theorem Formed.once (h : Formed Vs Es) : (ringsOf Vs).Nodup := h.pm.nodup_iff.2 (edS_nodup Es [] List.nodup_nil)
theorem Formed.len (h : Formed Vs Es) : (ringsOf Vs).length = 2 * Es.length := by
  rw [h.pm.length_eq, edS_len Es [] (rise_nodup h.re) (fun e _ => ⟨by simp, by simp⟩)]
  simp
theorem at_of (hn : (ringsOf Vs).Nodup) {v : VC} (hv : v ∈ Vs) {d : D} (hd : d ∈ v.2.1.2.2.2) : atV Vs d = (v.1, true) := by
  induction Vs with
  | nil => cases hv
  | cons u r ih =>
    rw [ringsOf_cons] at hn
    rw [List.nodup_append] at hn
    by_cases hu : d ∈ u.2.1.2.2.2
    · rw [atV_yes _ _ _ hu]
      rcases List.mem_cons.1 hv with rfl | hv
      · rfl
      · exact absurd rfl (hn.2.2 d hu d (List.mem_flatMap.2 ⟨v, hv, hd⟩))
    · rw [atV_no _ _ _ hu]
      rcases List.mem_cons.1 hv with rfl | hv
      · exact absurd hd hu
      · exact ih hn.2.1 hv
theorem Formed.at (h : Formed Vs Es) {v : VC} (hv : v ∈ Vs) {d : D} (hd : d ∈ v.2.1.2.2.2) : atV Vs d = (v.1, true) := at_of h.once hv hd
theorem Formed.edge (h : Formed Vs Es) {v : VC} (hv : v ∈ Vs) {d : D} (hd : d ∈ v.2.1.2.2.2) : (fndE Es (d.1, d.2.1)).2 = true := by
  have h1 := (dartOk_mem Es d).2 (h.pm.mem_iff.1 (List.mem_flatMap.2 ⟨v, hv, hd⟩))
  unfold dartOk at h1
  rw [Bool.and_eq_true] at h1
  exact h1.1
/-- Without one of its edges it is not well formed. -/
theorem Formed.less (h : Formed Vs Es) {k : Nat} (hk : k < Es.length) : formD Vs (Es.take k ++ Es.drop (k + 1)) = 10 := by
  have hl : (Es.take k ++ Es.drop (k + 1)).length = Es.length - 1 := by
    rw [List.length_append, List.length_take, List.length_drop]; omega
  have hsub : (Es.take k ++ Es.drop (k + 1)).Sublist Es := by
    rw [← List.eraseIdx_eq_take_drop_succ]
    exact List.eraseIdx_sublist ..
  have hnd : ((Es.take k ++ Es.drop (k + 1)).map (·.1)).Nodup := (hsub.map _).nodup (rise_nodup h.re)
  have ho : onceF (edS (Es.take k ++ Es.drop (k + 1)) []) (ringsOf Vs) = false := by
    rw [Bool.eq_false_iff]
    intro q
    have := ((onceF_perm _ _).1 q).length_eq
    rw [h.len, edS_len _ [] hnd (fun e _ => ⟨by simp, by simp⟩), hl] at this
    simp at this
    omega
  unfold formD formB
  have e0 : decide (24 < Vs.length ∨ 40 < (Es.take k ++ Es.drop (k + 1)).length) = false := decide_eq_false (by have := h.v24; have := h.e40; omega)
  rw [e0, ho]
  simp
end
theorem rings_take (Vs : List VC) (j : Nat) (v : VC) (h : Vs[j]? = some v) : (ringsOf (Vs.take (j + 1))).length = (ringsOf (Vs.take j)).length + v.2.1.2.2.2.length := by
  have : Vs.take (j + 1) = Vs.take j ++ [v] := by rw [List.take_add_one, h]; rfl
  rw [this, ringsOf, List.flatMap_append, List.length_append]
  simp [ringsOf]
end Go.Proofs.YtmkflebkifbpfaaGreat
/- A diagram as bytes, and what bytes are read as: numbers alone. -/
namespace Go.Proofs.YtmkflebkifbpfaaGreat
open Go.RowKit
abbrev VS := (Int × Int) × List D × ByteArray × Int
/-- What an edge and a vertex have in common. -/
def headB (x : Int × Int) (s : ByteArray) (a : Int) : List Nat := idB x ++ (textB s ++ be8 a)
def edB (e : EC) : List Nat := headB e.1 e.2.1 e.2.2
/-- An edge's place. -/
def plE (Es : List EC) (x : Int × Int) : Nat := (Es.map (·.1)).idxOf x
def dB (Es : List EC) (d : D) : Nat := (plE Es (d.1, d.2.1) + 128 * d.2.2.toNat) % 256
def vtB (Es : List EC) (v : VS) : List Nat := headB v.1 v.2.2.1 v.2.2.2 ++ (v.2.1.length % 256 :: v.2.1.map (dB Es))
/-- A diagram's bytes. -/
def putD (Vs : List VS) (Es : List EC) : List Nat := Es.length % 256 :: (Es.flatMap edB ++ (Vs.length % 256 :: Vs.flatMap (vtB Es)))
/-- The next n bytes: behind the end noughts. -/
def nx (n : Nat) (L : List Nat) : List Nat := (L ++ List.replicate n 0).take n
/-- The name in four bytes. -/
def nm4 (L : List Nat) : Int × Int := ((L.getD 0 0 : Int), 65536 * (L.getD 1 0 : Int) + 256 * (L.getD 2 0 : Int) + (L.getD 3 0 : Int))
def tk4 (L : List Nat) : Int × Int := if mayI (nm4 L).1 (nm4 L).2 = true then nm4 L else (0, 0)
/-- A head as it is read. -/
def rdId (L : List Nat) : Int × Int := tk4 (nx 4 L)
def rdTx (L : List Nat) : ByteArray := txt (nx (c1 (L.drop 4)) ((L.drop 4).drop 1))
def rdL2 (L : List Nat) : List Nat := ((L.drop 4).drop 1).drop (c1 (L.drop 4))
def rdAt (L : List Nat) : Int := num8 (nx 8 (rdL2 L))
def rdH (L : List Nat) : List Nat := (rdL2 L).drop 8
def rdE (L : List Nat) : EC := (rdId L, rdTx L, rdAt L)
def rdEs : Nat → List Nat → List EC
  | 0, _ => []
  | n + 1, L => rdE L :: rdEs n (rdH L)
def rdEr : Nat → List Nat → List Nat
  | 0, L => L
  | n + 1, L => rdEr n (rdH L)
def rdD (Es : List EC) (c : Nat) : D := match Es[c % 128]? with | some e => (e.1.1, e.1.2, ((c / 128 : Nat) : Int)) | none => (0, 0, 0)
def rdV (Es : List EC) (L : List Nat) : VS := (rdId L, (nx (c1 (rdH L)) ((rdH L).drop 1)).map (rdD Es), rdTx L, rdAt L)
def rdW (L : List Nat) : List Nat := ((rdH L).drop 1).drop (c1 (rdH L))
def rdVs (Es : List EC) : Nat → List Nat → List VS
  | 0, _ => []
  | n + 1, L => rdV Es L :: rdVs Es n (rdW L)
def rdAE (L : List Nat) : List EC := rdEs (c1 L) (L.drop 1)
def rdAV (L : List Nat) : List VS := rdVs (rdAE L) (c1 (rdEr (c1 L) (L.drop 1))) ((rdEr (c1 L) (L.drop 1)).drop 1)
theorem nx_app {A R : List Nat} {n : Nat} (h : A.length = n) : nx n (A ++ R) = A := by
  unfold nx
  rw [List.append_assoc, List.take_append_of_le_length (by omega), List.take_of_length_le (by omega)]
theorem drop_app {A R : List Nat} {n : Nat} (h : A.length = n) : (A ++ R).drop n = R := by
  rw [List.drop_append_of_le_length (by omega), List.drop_eq_nil_of_le (by omega), List.nil_append]
theorem nx_len (n : Nat) (L : List Nat) : (nx n L).length = n := by simp [nx]
theorem nx_lt {L : List Nat} (h : ∀ b ∈ L, b < 256) (n : Nat) : ∀ b ∈ nx n L, b < 256 := fun b hb => by
  rcases List.mem_append.1 (List.mem_of_mem_take hb) with q | q
  · exact h b q
  · rw [List.eq_of_mem_replicate q]; omega
theorem tk4_idB {x : Int × Int} (h : mayI x.1 x.2 = true) : tk4 (idB x) = x := by
  have hm : 1 ≤ x.1 ∧ x.1 ≤ 8 ∧ 1 ≤ x.2 ∧ x.2 ≤ 1048576 := of_decide_eq_true h
  have e : nm4 (idB x) = x := by
    refine Prod.ext ?_ ?_
    · simp only [nm4, idB, List.getD_cons_zero]; omega
    · simp only [nm4, idB, List.getD_cons_zero, List.getD_cons_succ]; omega
  unfold tk4
  rw [e, if_pos h]
/-- A head that may be. -/
def okH (x : Int × Int) (s : ByteArray) (a : Int) : Prop := mayI x.1 x.2 = true ∧ s.size < 256 ∧ In64 a
section
variable {x : Int × Int} {s : ByteArray} {a : Int} (h : okH x s a) (R : List Nat)
include h
theorem rd_id : rdId (headB x s a ++ R) = x := by
  unfold rdId headB
  rw [List.append_assoc, nx_app (A := idB x) (n := 4) rfl, tk4_idB h.1]
theorem rd_c1 : c1 ((headB x s a ++ R).drop 4) = s.size ∧ ((headB x s a ++ R).drop 4).drop 1 = tB s ++ (be8 a ++ R) := by
  unfold headB
  rw [List.append_assoc, drop_app (A := idB x) (n := 4) rfl]
  have e : s.size % 256 = s.size := Nat.mod_eq_of_lt h.2.1
  constructor
  · rw [← e]; rfl
  · simp [textB, List.append_assoc]
theorem rd_tx : rdTx (headB x s a ++ R) = s := by
  unfold rdTx
  rw [(rd_c1 h R).1, (rd_c1 h R).2, nx_app (tB_len s), txt_tB]
theorem rd_l2 : rdL2 (headB x s a ++ R) = be8 a ++ R := by
  unfold rdL2
  rw [(rd_c1 h R).1, (rd_c1 h R).2, drop_app (tB_len s)]
theorem rd_at : rdAt (headB x s a ++ R) = a := by
  unfold rdAt
  rw [rd_l2 h R, nx_app (be8_len a), num8_be8 a h.2.2]
theorem rd_h : rdH (headB x s a ++ R) = R := by
  unfold rdH
  rw [rd_l2 h R, drop_app (be8_len a)]
end
theorem rd_es : ∀ (Es : List EC) (R : List Nat), (∀ e ∈ Es, okH e.1 e.2.1 e.2.2) → rdEs Es.length (Es.flatMap edB ++ R) = Es ∧ rdEr Es.length (Es.flatMap edB ++ R) = R
  | [], R, _ => ⟨rfl, rfl⟩
  | e :: Es, R, h => by
    have h1 := h e (by simp)
    obtain ⟨i1, i2⟩ := rd_es Es R (fun x hx => h x (by simp [hx]))
    have e1 : (e :: Es).flatMap edB ++ R = headB e.1 e.2.1 e.2.2 ++ (Es.flatMap edB ++ R) := by rw [List.flatMap_cons, List.append_assoc]; rfl
    rw [e1]
    refine ⟨?_, ?_⟩
    · show rdE _ :: rdEs Es.length (rdH _) = _
      rw [rd_h h1, i1]
      unfold rdE
      rw [rd_id h1, rd_tx h1, rd_at h1]
    · show rdEr Es.length (rdH _) = _
      rw [rd_h h1, i2]
/-- A dart that may be, of an edge that is there. -/
theorem rd_d {Es : List EC} {d : D} (h1 : (d.1, d.2.1) ∈ Es.map (·.1)) (h2 : d.2.2 = 0 ∨ d.2.2 = 1) (h3 : Es.length ≤ 40) : rdD Es (dB Es d) = d := by
  have hl := List.idxOf_lt_length_of_mem h1
  rw [List.length_map] at hl
  have hg : (Es.map (·.1))[plE Es (d.1, d.2.1)]? = some (d.1, d.2.1) := by
    have h9 := List.idxOf_lt_length_of_mem h1
    rw [plE, List.getElem?_eq_getElem h9, List.getElem_idxOf h9]
  obtain ⟨d1, d2, d3⟩ := d
  simp only at h1 h2 hg hl
  have hp : plE Es (d1, d2) < Es.length := hl
  rw [List.getElem?_map] at hg
  have key : ∀ q : Nat, (q = 0 ∧ d3 = 0) ∨ (q = 1 ∧ d3 = 1) → rdD Es ((plE Es (d1, d2) + 128 * q) % 256) = (d1, d2, d3) := fun q hq => by
    have e1 : (plE Es (d1, d2) + 128 * q) % 256 % 128 = plE Es (d1, d2) := by omega
    have e2 : (((plE Es (d1, d2) + 128 * q) % 256 / 128 : Nat) : Int) = d3 := by omega
    unfold rdD
    rw [e1, e2]
    cases he : Es[plE Es (d1, d2)]? with
    | none => rw [he] at hg; simp at hg
    | some e => rw [he] at hg; simp at hg; simp [hg]
  unfold dB
  rcases h2 with rfl | rfl
  · exact key 0 (by omega)
  · exact key 1 (by omega)
/-- A vertex that may be. -/
def okV (Es : List EC) (v : VS) : Prop := okH v.1 v.2.2.1 v.2.2.2 ∧ v.2.1.length < 256 ∧ ∀ d ∈ v.2.1, (d.1, d.2.1) ∈ Es.map (·.1) ∧ (d.2.2 = 0 ∨ d.2.2 = 1)
theorem rd_vs (Es : List EC) (h3 : Es.length ≤ 40) : ∀ (Vs : List VS) (R : List Nat), (∀ v ∈ Vs, okV Es v) → rdVs Es Vs.length (Vs.flatMap (vtB Es) ++ R) = Vs
  | [], R, _ => rfl
  | v :: Vs, R, h => by
    obtain ⟨h1, h2, hd⟩ := h v (by simp)
    have i1 := rd_vs Es h3 Vs R (fun x hx => h x (by simp [hx]))
    obtain ⟨T, gT⟩ : ∃ T, Vs.flatMap (vtB Es) ++ R = T := ⟨_, rfl⟩
    have e1 : (v :: Vs).flatMap (vtB Es) ++ R = headB v.1 v.2.2.1 v.2.2.2 ++ (v.2.1.length % 256 :: (v.2.1.map (dB Es) ++ T)) := by
      rw [List.flatMap_cons, List.append_assoc, gT]
      show (headB v.1 v.2.2.1 v.2.2.2 ++ (v.2.1.length % 256 :: v.2.1.map (dB Es))) ++ T = _
      rw [List.append_assoc, List.cons_append]
    rw [gT] at i1
    have ec : c1 (v.2.1.length % 256 :: (v.2.1.map (dB Es) ++ T)) = v.2.1.length := Nat.mod_eq_of_lt h2
    have hl : (v.2.1.map (dB Es)).length = v.2.1.length := List.length_map ..
    rw [e1]
    show rdV Es _ :: rdVs Es Vs.length (rdW _) = _
    have ew : rdW (headB v.1 v.2.2.1 v.2.2.2 ++ (v.2.1.length % 256 :: (v.2.1.map (dB Es) ++ T))) = T := by
      unfold rdW
      rw [rd_h h1, ec, List.drop_one, List.tail_cons, drop_app hl]
    rw [ew, i1]
    unfold rdV
    rw [rd_id h1, rd_tx h1, rd_at h1, rd_h h1, ec, List.drop_one, List.tail_cons, nx_app hl, List.map_map, List.map_congr_left (f := rdD Es ∘ dB Es) (g := id) (fun d q => rd_d (hd d q).1 (hd d q).2 h3), List.map_id]
/-- A diagram that was laid down is read as it was, whatever stands behind it. -/
theorem rd_put {Vs : List VS} {Es : List EC} (hE : ∀ e ∈ Es, okH e.1 e.2.1 e.2.2) (h3 : Es.length ≤ 40) (hV : ∀ v ∈ Vs, okV Es v) (h4 : Vs.length ≤ 24) (R : List Nat) : rdAE (putD Vs Es ++ R) = Es ∧ rdAV (putD Vs Es ++ R) = Vs := by
  obtain ⟨U, gU⟩ : ∃ U, (Vs.length % 256 :: Vs.flatMap (vtB Es)) ++ R = U := ⟨_, rfl⟩
  have e1 : putD Vs Es ++ R = Es.length % 256 :: (Es.flatMap edB ++ U) := by
    unfold putD
    rw [List.cons_append, List.append_assoc, gU]
  have ec : c1 (Es.length % 256 :: (Es.flatMap edB ++ U)) = Es.length := Nat.mod_eq_of_lt (by omega)
  obtain ⟨i1, i2⟩ := rd_es Es U hE
  have a1 : rdAE (putD Vs Es ++ R) = Es := by
    unfold rdAE
    rw [e1, ec, List.drop_one, List.tail_cons, i1]
  refine ⟨a1, ?_⟩
  unfold rdAV
  rw [a1, e1, ec, List.drop_one, List.tail_cons, i2, ← gU, List.cons_append]
  have ev : c1 (Vs.length % 256 :: (Vs.flatMap (vtB Es) ++ R)) = Vs.length := Nat.mod_eq_of_lt (by omega)
  rw [ev, List.drop_one, List.tail_cons, rd_vs Es h3 Vs R hV]
end Go.Proofs.YtmkflebkifbpfaaGreat
/- One to one on a finite list: orbits, periods, how many orbits there are. -/
namespace Go.Proofs.YtmkflebkifbpfaaGreat
open Go.RowKit
/-- f, k times. -/
def itN {α : Type} (f : α → α) : Nat → α → α
  | 0, x => x
  | k + 1, x => itN f k (f x)
/-- What is one to one on a list. -/
structure Pm {α : Type} (f : α → α) (L : List α) : Prop where
  nd : L.Nodup
  cl : ∀ x ∈ L, f x ∈ L
  inj : ∀ x ∈ L, ∀ y ∈ L, f x = f y → x = y
def Rl {α : Type} (f : α → α) (x y : α) : Prop := ∃ i, itN f i x = y
structure IsPer {α : Type} (f : α → α) (x : α) (p : Nat) : Prop where
  pos : 0 < p
  back : itN f p x = x
  ne : ∀ i, 0 < i → i < p → itN f i x ≠ x
def orbN {α : Type} (f : α → α) (x : α) (p : Nat) : List α := (List.range p).map fun i => itN f i x
/-- Round, from y on, k at most. -/
def orbT {α : Type} [DecidableEq α] (f : α → α) (x : α) : Nat → α → List α
  | 0, _ => []
  | k + 1, y => y :: (if f y = x then [] else orbT f x k (f y))
/-- One of each orbit. -/
structure Reps {α : Type} (f : α → α) (L P : List α) : Prop where
  nd : P.Nodup
  sub : ∀ p ∈ P, p ∈ L
  all : ∀ x ∈ L, ∃ p ∈ P, Rl f p x
  one : ∀ p ∈ P, ∀ q ∈ P, Rl f p q → p = q
/-- As many, at most: each has one of its own. -/
theorem inj_le {α β : Type} [DecidableEq β] (r : α → β → Prop) : ∀ (A : List α) (B : List β), A.Nodup → (∀ a ∈ A, ∃ b ∈ B, r a b) → (∀ a ∈ A, ∀ a' ∈ A, ∀ b ∈ B, r a b → r a' b → a = a') → A.length ≤ B.length
  | [], _, _, _, _ => Nat.zero_le _
  | a :: A, B, hn, he, hi => by
    rw [List.nodup_cons] at hn
    obtain ⟨b, hb, hr⟩ := he a (List.mem_cons_self ..)
    have h1 := inj_le r A (B.erase b) hn.2 (fun a' ha' => by
      obtain ⟨b', hb', hr'⟩ := he a' (List.mem_cons_of_mem _ ha')
      refine ⟨b', (List.mem_erase_of_ne (fun e => ?_)).2 hb', hr'⟩
      subst e
      exact hn.1 (hi a (List.mem_cons_self ..) a' (List.mem_cons_of_mem _ ha') b' hb' hr hr' ▸ ha')) (fun x hx y hy z hz => hi x (List.mem_cons_of_mem _ hx) y (List.mem_cons_of_mem _ hy) z (List.mem_of_mem_erase hz))
    rw [List.length_erase_of_mem hb] at h1
    have := List.length_pos_of_mem hb
    simp only [List.length_cons]
    omega
theorem nd_le {α : Type} [DecidableEq α] {A B : List α} (h : A.Nodup) (hs : ∀ x ∈ A, x ∈ B) : A.length ≤ B.length :=
  inj_le (fun a b => a = b) A B h (fun a ha => ⟨a, hs a ha, rfl⟩) (fun _ _ _ _ _ _ e e' => e.trans e'.symm)
theorem least {p : Nat → Prop} (h : ∃ n, p n) : ∃ n, p n ∧ ∀ m, m < n → ¬ p m := by
  obtain ⟨n, hn⟩ := h
  induction n using Nat.strongRecOn with
  | _ n ih =>
    by_cases q : ∃ m, m < n ∧ p m
    · obtain ⟨m, h1, h2⟩ := q
      exact ih m h1 h2
    · exact ⟨n, hn, fun m h1 h2 => q ⟨m, h1, h2⟩⟩
section
variable {α : Type} {f : α → α} {L P Q : List α}
theorem it_add (i j : Nat) (x : α) : itN f (i + j) x = itN f j (itN f i x) := by
  induction i generalizing x with
  | zero => rw [Nat.zero_add]; rfl
  | succ i ih => rw [Nat.succ_add]; exact ih (f x)
theorem it_succ (k : Nat) (x : α) : itN f (k + 1) x = f (itN f k x) := it_add k 1 x
theorem Pm.it (h : Pm f L) {x : α} (hx : x ∈ L) : ∀ k, itN f k x ∈ L
  | 0 => hx
  | k + 1 => by rw [it_succ]; exact h.cl _ (h.it hx k)
theorem Pm.it_inj (h : Pm f L) {x y : α} (hx : x ∈ L) (hy : y ∈ L) : ∀ k, itN f k x = itN f k y → x = y
  | 0, e => e
  | k + 1, e => by
    rw [it_succ, it_succ] at e
    exact h.it_inj hx hy k (h.inj _ (h.it hx k) _ (h.it hy k) e)
theorem Pm.per [DecidableEq α] (h : Pm f L) {x : α} (hx : x ∈ L) : ∃ p, IsPer f x p ∧ p ≤ L.length := by
  have h0 : ∃ n, 0 < n ∧ itN f n x = x ∧ n ≤ L.length := by
    refine Classical.byContradiction fun hno => ?_
    have hnd : ((List.range (L.length + 1)).map fun i => itN f i x).Nodup := by
      rw [List.Nodup, List.pairwise_map]
      refine List.Pairwise.imp_of_mem ?_ (List.pairwise_lt_range (n := L.length + 1))
      intro i j hi hj hlt e
      rw [List.mem_range] at hi hj
      refine hno ⟨j - i, by omega, ?_, by omega⟩
      have e1 : itN f i (itN f (j - i) x) = itN f i x := by
        rw [← it_add, Nat.sub_add_cancel (by omega)]
        exact e.symm
      exact h.it_inj (h.it hx _) hx i e1
    have := nd_le hnd (B := L) (fun y hy => by
      obtain ⟨i, _, rfl⟩ := List.mem_map.1 hy
      exact h.it hx i)
    rw [List.length_map, List.length_range] at this
    omega
  obtain ⟨n, ⟨h1, h2, h3⟩, h4⟩ := least h0
  exact ⟨n, ⟨h1, h2, fun i hi hlt e => h4 i hlt ⟨hi, e, by omega⟩⟩, h3⟩
theorem IsPer.mul {x : α} {p : Nat} (h : IsPer f x p) (k : Nat) : itN f (p * k) x = x := by
  induction k with
  | zero => rfl
  | succ k ih => rw [Nat.mul_succ, it_add, ih, h.back]
theorem IsPer.mod {x : α} {p : Nat} (h : IsPer f x p) (k : Nat) : itN f k x = itN f (k % p) x := by
  have := it_add (f := f) (p * (k / p)) (k % p) x
  rw [Nat.div_add_mod, h.mul] at this
  exact this
theorem IsPer.inj (h : Pm f L) {x : α} (hx : x ∈ L) {p : Nat} (hp : IsPer f x p) {i j : Nat} (hi : i < p) (hj : j < p) (e : itN f i x = itN f j x) : i = j := by
  have key : ∀ {i j : Nat}, i < j → j < p → itN f i x = itN f j x → False := fun {i j} hlt hj e => by
    have e1 : itN f i (itN f (j - i) x) = itN f i x := by
      rw [← it_add, Nat.sub_add_cancel (by omega)]
      exact e.symm
    exact hp.ne (j - i) (by omega) (by omega) (h.it_inj (h.it hx _) hx i e1)
  rcases Nat.lt_trichotomy i j with q | q | q
  · exact (key q hj e).elim
  · exact q
  · exact (key q hi e.symm).elim
theorem IsPer.uniq {x : α} {p q : Nat} (h : IsPer f x p) (k : IsPer f x q) : p = q := by
  rcases Nat.lt_trichotomy p q with e | e | e
  · exact (k.ne p h.pos e h.back).elim
  · exact e
  · exact (h.ne q k.pos e k.back).elim
theorem Rl.refl (x : α) : Rl f x x := ⟨0, rfl⟩
theorem Rl.trans {x y z : α} (h : Rl f x y) (k : Rl f y z) : Rl f x z := by
  obtain ⟨i, rfl⟩ := h
  obtain ⟨j, rfl⟩ := k
  exact ⟨i + j, it_add i j x⟩
theorem Rl.one (x : α) : Rl f x (f x) := ⟨1, rfl⟩
theorem Rl.mem (h : Pm f L) {x y : α} (hx : x ∈ L) (r : Rl f x y) : y ∈ L := by
  obtain ⟨i, rfl⟩ := r
  exact h.it hx i
theorem Rl.symm [DecidableEq α] (h : Pm f L) {x y : α} (hx : x ∈ L) (r : Rl f x y) : Rl f y x := by
  obtain ⟨i, rfl⟩ := r
  obtain ⟨p, hp, _⟩ := h.per hx
  refine ⟨p * i - i, ?_⟩
  rw [← it_add]
  have : i ≤ p * i := Nat.le_mul_of_pos_left i hp.pos
  rw [show i + (p * i - i) = p * i by omega, hp.mul]
theorem IsPer.shift (h : Pm f L) {x : α} (hx : x ∈ L) {p : Nat} (hp : IsPer f x p) (k : Nat) : IsPer f (itN f k x) p := by
  refine ⟨hp.pos, by rw [← it_add, Nat.add_comm, it_add, hp.back], fun i h1 h2 e => hp.ne i h1 h2 ?_⟩
  rw [← it_add, Nat.add_comm, it_add] at e
  exact h.it_inj (h.it hx i) hx k e
theorem orb_len (x : α) (p : Nat) : (orbN f x p).length = p := by simp [orbN]
theorem orb_mem {x y : α} {p : Nat} (hp : IsPer f x p) : y ∈ orbN f x p ↔ Rl f x y := by
  unfold orbN
  rw [List.mem_map]
  constructor
  · rintro ⟨i, _, rfl⟩
    exact ⟨i, rfl⟩
  · rintro ⟨i, rfl⟩
    exact ⟨i % p, List.mem_range.2 (Nat.mod_lt _ hp.pos), (hp.mod i).symm⟩
theorem orbT_eq [DecidableEq α] {x : α} {p : Nat} (hp : IsPer f x p) : ∀ (k j : Nat), j < p → p - j ≤ k → orbT f x k (itN f j x) = (orbN f x p).drop j
  | 0, j, hj, hk => by omega
  | k + 1, j, hj, hk => by
    have e1 : (orbN f x p).drop j = itN f j x :: (orbN f x p).drop (j + 1) := by
      rw [List.drop_eq_getElem_cons (by simp [orbN]; omega)]
      simp [orbN]
    rw [orbT, e1, ← it_succ (f := f) j x]
    by_cases q : j + 1 = p
    · rw [q, if_pos hp.back, List.drop_eq_nil_of_le (by simp [orbN])]
    · rw [if_neg (hp.ne (j + 1) (by omega) (by omega)), orbT_eq hp k (j + 1) (by omega) (by omega)]
theorem orbT_all [DecidableEq α] {x : α} {p k : Nat} (hp : IsPer f x p) (hk : p ≤ k) : orbT f x k x = orbN f x p := orbT_eq hp k 0 hp.pos (by omega)
theorem Reps.le [DecidableEq α] (h : Pm f L) (h1 : Reps f L P) (h2 : Reps f L Q) : P.length ≤ Q.length :=
  inj_le (fun p q => Rl f q p) P Q h1.nd (fun p hp => h2.all p (h1.sub p hp)) (fun p hp p' hp' q hq r r' => h1.one p hp p' hp' ((r.symm h (h2.sub q hq)).trans r'))
theorem Reps.len [DecidableEq α] (h : Pm f L) (h1 : Reps f L P) (h2 : Reps f L Q) : P.length = Q.length := Nat.le_antisymm (h1.le h h2) (h2.le h h1)
/-- All orbits, of those that are still to come, T being told. -/
def orbsF [DecidableEq α] (f : α → α) (N : Nat) : List α → List α → List (List α)
  | [], _ => []
  | x :: r, T => if x ∈ T then orbsF f N r T else orbT f x N x :: orbsF f N r (T ++ orbT f x N x)
theorem orbs_heads [DecidableEq α] (h : Pm f L) {N : Nat} (hN : L.length ≤ N) : ∀ (l T : List α), (∀ x ∈ l, x ∈ L) → (∀ x ∈ T, x ∈ L) → (∀ x ∈ T, ∀ y, Rl f x y → y ∈ T) →
    ∃ P : List α, P.Sublist l ∧ orbsF f N l T = P.map (fun x => orbT f x N x) ∧ (∀ p ∈ P, p ∉ T) ∧ (∀ x ∈ l, x ∈ T ∨ ∃ p ∈ P, Rl f p x) ∧ (∀ p ∈ P, ∀ q ∈ P, Rl f p q → p = q) ∧ P.Nodup
  | [], T, _, _, _ => ⟨[], List.Sublist.refl _, rfl, by simp, by simp, by simp, List.nodup_nil⟩
  | x :: r, T, hl, hT, hc => by
    have hxL := hl x (List.mem_cons_self ..)
    have hr := fun y hy => hl y (List.mem_cons_of_mem _ hy)
    by_cases hx : x ∈ T
    · obtain ⟨P, h1, h2, h3, h4, h5, h6⟩ := orbs_heads h hN r T hr hT hc
      refine ⟨P, h1.cons _, by rw [orbsF, if_pos hx, h2], h3, fun y hy => ?_, h5, h6⟩
      rcases List.mem_cons.1 hy with rfl | hy
      · exact .inl hx
      · exact h4 y hy
    · obtain ⟨p, hp, hpl⟩ := h.per hxL
      have eo : orbT f x N x = orbN f x p := orbT_all hp (by omega)
      have hmem : ∀ y, y ∈ T ++ orbN f x p ↔ y ∈ T ∨ Rl f x y := fun y => by rw [List.mem_append, orb_mem hp]
      obtain ⟨P, h1, h2, h3, h4, h5, h6⟩ := orbs_heads h hN r (T ++ orbT f x N x) hr (fun y hy => by
        rw [eo, hmem] at hy
        exact hy.elim (hT y) (fun q => q.mem h hxL)) (fun y hy z hz => by
        rw [eo, hmem] at hy ⊢
        exact hy.elim (fun q => .inl (hc y q z hz)) (fun q => .inr (q.trans hz)))
      rw [eo] at h3 h4
      have hxP : ∀ q ∈ P, ¬ Rl f x q := fun q hq r => h3 q hq ((hmem q).2 (.inr r))
      refine ⟨x :: P, h1.cons_cons _, by rw [orbsF, if_neg hx, h2]; rfl, fun q hq => ?_, fun y hy => ?_, fun a ha b hb r => ?_, ?_⟩
      · rcases List.mem_cons.1 hq with rfl | hq
        · exact hx
        · exact fun m => h3 q hq ((hmem q).2 (.inl m))
      · rcases List.mem_cons.1 hy with rfl | hy
        · exact .inr ⟨y, List.mem_cons_self .., Rl.refl _⟩
        · rcases h4 y hy with q | ⟨p', hp', r⟩
          · rcases (hmem y).1 q with q | q
            · exact .inl q
            · exact .inr ⟨x, List.mem_cons_self .., q⟩
          · exact .inr ⟨p', List.mem_cons_of_mem _ hp', r⟩
      · rcases List.mem_cons.1 ha with ea | ha2
        · rcases List.mem_cons.1 hb with eb | hb2
          · rw [ea, eb]
          · exact (hxP b hb2 (ea ▸ r)).elim
        · rcases List.mem_cons.1 hb with eb | hb2
          · exact (hxP a ha2 (eb ▸ r.symm h (hr a (h1.subset ha2)))).elim
          · exact h5 a ha2 b hb2 r
      · exact List.nodup_cons.2 ⟨fun hq => hxP x hq (Rl.refl x), h6⟩
/-- All orbits of a list are those of one of each. -/
theorem orbs_reps [DecidableEq α] (h : Pm f L) {N : Nat} (hN : L.length ≤ N) (l : List α) (hl : ∀ x, x ∈ l ↔ x ∈ L) : ∃ P, Reps f L P ∧ orbsF f N l [] = P.map (fun x => orbT f x N x) := by
  obtain ⟨P, h1, h2, h3, h4, h5, h6⟩ := orbs_heads h hN l [] (fun x hx => (hl x).1 hx) (by simp) (by simp)
  refine ⟨P, ⟨h6, fun p hp => (hl p).1 (h1.subset hp), fun x hx => ?_, h5⟩, h2⟩
  rcases h4 x ((hl x).2 hx) with q | q
  · cases q
  · exact q
end
end Go.Proofs.YtmkflebkifbpfaaGreat
/- An edge more: one orbit becomes two, or two become one. -/
namespace Go.Proofs.YtmkflebkifbpfaaGreat
open Go.RowKit
section
variable {α : Type} [DecidableEq α] {f f' : α → α} {L L' P : List α}
theorem it_same (h : Pm f L) {a b x : α} (fz : ∀ z ∈ L, z ≠ a → z ≠ b → f' z = f z) (hx : x ∈ L) (ha : ¬ Rl f x a) (hb : ¬ Rl f x b) : ∀ k, itN f' k x = itN f k x
  | 0 => rfl
  | k + 1 => by
    rw [it_succ, it_succ, it_same h fz hx ha hb k]
    exact fz _ (h.it hx k) (fun e => ha ⟨k, e⟩) (fun e => hb ⟨k, e⟩)
theorem rl_same (h : Pm f L) {a b x : α} (fz : ∀ z ∈ L, z ≠ a → z ≠ b → f' z = f z) (hx : x ∈ L) (ha : ¬ Rl f x a) (hb : ¬ Rl f x b) (y : α) : Rl f' x y ↔ Rl f x y := by
  constructor
  · rintro ⟨k, e⟩
    exact ⟨k, (it_same h fz hx ha hb k).symm.trans e⟩
  · rintro ⟨k, e⟩
    exact ⟨k, (it_same h fz hx ha hb k).trans e⟩
/-- What the new dart reaches. -/
theorem reach (h : Pm f L) {a b n x : α} (fz : ∀ z ∈ L, z ≠ a → z ≠ b → f' z = f z) (fn : f' n = f x) (hx : x ∈ L) : ∀ i, (∀ j, 0 < j → j < i → itN f j x ≠ a ∧ itN f j x ≠ b) → 0 < i → Rl f' n (itN f i x)
  | 0, _, h0 => absurd h0 (by omega)
  | 1, _, _ => ⟨1, fn⟩
  | i + 2, hj, _ => by
    have h1 := reach h fz fn hx (i + 1) (fun j h1 h2 => hj j h1 (by omega)) (by omega)
    have h2 := hj (i + 1) (by omega) (by omega)
    refine h1.trans ⟨1, ?_⟩
    show f' (itN f (i + 1) x) = itN f (i + 2) x
    rw [it_succ (i + 1) x, fz _ (h.it hx _) h2.1 h2.2]
theorem IsPer.up {x : α} {p : Nat} (hp : IsPer f x p) {y : α} (r : Rl f x y) : ∃ i, 0 < i ∧ i ≤ p ∧ itN f i x = y := by
  obtain ⟨i, rfl⟩ := r
  by_cases q : i % p = 0
  · exact ⟨p, hp.pos, Nat.le_refl _, by rw [hp.back, hp.mod i, q]; rfl⟩
  · exact ⟨i % p, by omega, Nat.le_of_lt (Nat.mod_lt _ hp.pos), (hp.mod i).symm⟩
theorem sides (h : Pm f L) (h' : Pm f' L') {a b n0 n1 : α} (ha : a ∈ L) (hb : b ∈ L) (hab : a ≠ b) (h0 : n0 ∉ L) (h1 : n1 ∉ L) (h01 : n0 ≠ n1) (hL : ∀ y, y ∈ L' ↔ y ∈ L ∨ y = n0 ∨ y = n1)
    (fa : f' a = n0) (f0 : f' n0 = f b) (fb : f' b = n1) (f1 : f' n1 = f a) (fz : ∀ z ∈ L, z ≠ a → z ≠ b → f' z = f z) (hP : Reps f L P) :
    ∃ P', Reps f' L' P' ∧ (Rl f a b → P'.length = P.length + 1) ∧ (¬ Rl f a b → P'.length + 1 = P.length) := by
  have m0 : n0 ∈ L' := (hL _).2 (.inr (.inl rfl))
  have m1 : n1 ∈ L' := (hL _).2 (.inr (.inr rfl))
  obtain ⟨p, hp, _⟩ := h.per hb
  obtain ⟨q, hq, _⟩ := h.per ha
  obtain ⟨rb, hrb, rrb⟩ := hP.all b hb
  obtain ⟨ra, hra, rra⟩ := hP.all a ha
  have fz' : ∀ z ∈ L, z ≠ b → z ≠ a → f' z = f z := fun z hz h1 h2 => fz z hz h2 h1
  -- what is no representative of a's or of b's orbit is in neither
  have hno : ∀ {x}, x ∈ P → x ≠ ra → ¬ Rl f x a := fun {x} hx hne r => hne (hP.one x hx ra hra (r.trans (rra.symm h (hP.sub ra hra))))
  have hno2 : ∀ {x}, x ∈ P → x ≠ rb → ¬ Rl f x b := fun {x} hx hne r => hne (hP.one x hx rb hrb (r.trans (rrb.symm h (hP.sub rb hrb))))
  have out0 : ∀ {x}, x ∈ L → ¬ Rl f x a → ¬ Rl f x b → ¬ Rl f' x n0 := fun {x} hx h1 h2 r => h0 (((rl_same h fz hx h1 h2 n0).1 r).mem h hx)
  have out1 : ∀ {x}, x ∈ L → ¬ Rl f x a → ¬ Rl f x b → ¬ Rl f' x n1 := fun {x} hx h1' h2 r => h1 (((rl_same h fz hx h1' h2 n1).1 r).mem h hx)
  by_cases hs : Rl f a b
  · -- one orbit becomes two
    have hsb := hs.symm h ha
    have erab : rb = ra := hP.one rb hrb ra hra (rrb.trans (hsb.trans (rra.symm h (hP.sub ra hra))))
    obtain ⟨k, ⟨k1, k2⟩, k3⟩ := least (p := fun i => 0 < i ∧ itN f i b = a) (by
      obtain ⟨i, i1, _, i2⟩ := hp.up hsb
      exact ⟨i, i1, i2⟩)
    have hkp : k < p := by
      obtain ⟨i, i1, i2, i3⟩ := hp.up hsb
      have : ¬ i < k := fun q => k3 i q ⟨i1, i3⟩
      have : i ≠ p := fun e => hab (by rw [← i3, e, hp.back])
      omega
    have hpa : IsPer f a p := k2 ▸ hp.shift h hb k
    -- from n0: as far as a
    have r0 : ∀ i, 0 < i → i ≤ k → Rl f' n0 (itN f i b) := fun i i1 i2 => reach h fz f0 hb i (fun j j1 j2 => ⟨fun e => k3 j (by omega) ⟨j1, e⟩, hp.ne j j1 (by omega)⟩) i1
    have eka : ∀ j, itN f j a = itN f (k + j) b := fun j => by rw [it_add, k2]
    have r1 : ∀ i, 0 < i → i ≤ p - k → Rl f' n1 (itN f i a) := fun i i1 i2 => reach h fz f1 ha i (fun j j1 j2 => ⟨hpa.ne j j1 (by omega), fun e => hp.ne (k + j) (by omega) (by omega) (by rw [← eka, e])⟩) i1
    -- n0's orbit is closed, without n1
    have cl : ∀ j, itN f' j n0 = n0 ∨ ∃ i, 0 < i ∧ i ≤ k ∧ itN f' j n0 = itN f i b := fun j => by
      induction j with
      | zero => exact .inl rfl
      | succ j ih =>
        rw [it_succ]
        rcases ih with e | ⟨i, i1, i2, e⟩
        · rw [e, f0]
          exact .inr ⟨1, by omega, by omega, rfl⟩
        · rw [e]
          by_cases q : i = k
          · rw [q, k2, fa]
            exact .inl rfl
          · refine .inr ⟨i + 1, by omega, by omega, ?_⟩
            rw [it_succ, fz _ (h.it hb i) (fun e => k3 i (by omega) ⟨i1, e⟩) (hp.ne i i1 (by omega))]
    have n01 : ¬ Rl f' n0 n1 := by
      rintro ⟨j, e⟩
      rcases cl j with q | ⟨i, i1, i2, q⟩
      · exact h01 (q.symm.trans e)
      · exact h1 (e ▸ q ▸ h.it hb i)
    have n10 : ¬ Rl f' n1 n0 := fun r => n01 (r.symm h' m1)
    have hme : ∀ x, x ∈ P.erase ra ↔ x ≠ ra ∧ x ∈ P := fun x => hP.nd.mem_erase_iff
    have hnn : ∀ {x}, x ∈ P → x ≠ ra → ¬ Rl f x a ∧ ¬ Rl f x b := fun {x} hx hne => ⟨hno hx hne, hno2 hx (erab ▸ hne)⟩
    have e0 : n0 ∉ P.erase ra := fun m => h0 (hP.sub _ ((hme _).1 m).2)
    have e1 : n1 ∉ P.erase ra := fun m => h1 (hP.sub _ ((hme _).1 m).2)
    refine ⟨n0 :: n1 :: P.erase ra, ⟨?_, ?_, ?_, ?_⟩, fun _ => ?_, fun q => (q hs).elim⟩
    · rw [List.nodup_cons, List.nodup_cons]
      exact ⟨fun m => (List.mem_cons.1 m).elim h01 e0, e1, hP.nd.erase _⟩
    · intro x hx
      rcases List.mem_cons.1 hx with rfl | hx
      · exact m0
      rcases List.mem_cons.1 hx with rfl | hx
      · exact m1
      · exact (hL _).2 (.inl (hP.sub _ ((hme _).1 hx).2))
    · intro x hx
      rcases (hL x).1 hx with hx | rfl | rfl
      · by_cases hxb : Rl f b x
        · obtain ⟨i, i1, i2, rfl⟩ := hp.up hxb
          by_cases q : i ≤ k
          · exact ⟨n0, List.mem_cons_self .., r0 i i1 q⟩
          · refine ⟨n1, List.mem_cons_of_mem _ (List.mem_cons_self ..), ?_⟩
            have := r1 (i - k) (by omega) (by omega)
            rwa [eka, show k + (i - k) = i by omega] at this
        · obtain ⟨y, hy, r⟩ := hP.all x hx
          have hne : y ≠ ra := fun e => hxb (by
            rw [e] at r
            exact (hsb.trans (rra.symm h (hP.sub ra hra))).trans r)
          refine ⟨y, List.mem_cons_of_mem _ (List.mem_cons_of_mem _ ((hme _).2 ⟨hne, hy⟩)), ?_⟩
          exact (rl_same h fz (hP.sub y hy) (hnn hy hne).1 (hnn hy hne).2 x).2 r
      · exact ⟨x, List.mem_cons_self .., Rl.refl _⟩
      · exact ⟨x, List.mem_cons_of_mem _ (List.mem_cons_self ..), Rl.refl _⟩
    · have old : ∀ x ∈ P.erase ra, ∀ y, (y = n0 ∨ y = n1) → ¬ Rl f' x y := fun x hx y hy => by
        obtain ⟨hne, hxP⟩ := (hme x).1 hx
        rcases hy with rfl | rfl
        · exact out0 (hP.sub x hxP) (hnn hxP hne).1 (hnn hxP hne).2
        · exact out1 (hP.sub x hxP) (hnn hxP hne).1 (hnn hxP hne).2
      have old2 : ∀ x ∈ P.erase ra, ∀ y, (y = n0 ∨ y = n1) → ¬ Rl f' y x := fun x hx y hy r =>
        old x hx y hy (r.symm h' (by rcases hy with rfl | rfl <;> assumption))
      intro x hx y hy r
      rcases List.mem_cons.1 hx with ex | hx
      · rcases List.mem_cons.1 hy with ey | hy
        · rw [ex, ey]
        rcases List.mem_cons.1 hy with ey | hy
        · exact (n01 (ex ▸ ey ▸ r)).elim
        · exact (old2 y hy x (.inl ex) r).elim
      rcases List.mem_cons.1 hx with ex | hx
      · rcases List.mem_cons.1 hy with ey | hy
        · exact (n10 (ex ▸ ey ▸ r)).elim
        rcases List.mem_cons.1 hy with ey | hy
        · rw [ex, ey]
        · exact (old2 y hy x (.inr ex) r).elim
      · rcases List.mem_cons.1 hy with ey | hy
        · exact (old x hx y (.inl ey) r).elim
        rcases List.mem_cons.1 hy with ey | hy
        · exact (old x hx y (.inr ey) r).elim
        · obtain ⟨hne, hxP⟩ := (hme x).1 hx
          exact hP.one x hxP y ((hme y).1 hy).2 ((rl_same h fz (hP.sub x hxP) (hnn hxP hne).1 (hnn hxP hne).2 y).1 r)
    · have hl := List.length_erase_of_mem hra
      have := List.length_pos_of_mem hra
      simp only [List.length_cons]
      omega
  · -- two orbits become one
    have hsb : ¬ Rl f b a := fun r => hs (r.symm h hb)
    have hne : rb ≠ ra := fun e => hsb ((rrb.symm h (hP.sub rb hrb)).trans (e ▸ rra))
    have r0 : ∀ i, 0 < i → i ≤ p → Rl f' n0 (itN f i b) := fun i i1 i2 => reach h fz f0 hb i (fun j j1 j2 => ⟨fun e => hsb ⟨j, e⟩, hp.ne j j1 (by omega)⟩) i1
    have r1 : ∀ i, 0 < i → i ≤ q → Rl f' n1 (itN f i a) := fun i i1 i2 => reach h fz f1 ha i (fun j j1 j2 => ⟨hq.ne j j1 (by omega), fun e => hs ⟨j, e⟩⟩) i1
    have r01 : Rl f' n0 n1 := by
      have := r0 p hp.pos (Nat.le_refl _)
      rw [hp.back] at this
      exact this.trans ⟨1, fb⟩
    have hmb : rb ∈ P.erase ra := hP.nd.mem_erase_iff.2 ⟨hne, hrb⟩
    have hme : ∀ x, x ∈ (P.erase ra).erase rb ↔ x ≠ rb ∧ x ≠ ra ∧ x ∈ P := fun x => by
      rw [(hP.nd.erase ra).mem_erase_iff, hP.nd.mem_erase_iff]
    have e0 : n0 ∉ (P.erase ra).erase rb := fun m => h0 (hP.sub _ ((hme _).1 m).2.2)
    refine ⟨n0 :: (P.erase ra).erase rb, ⟨?_, ?_, ?_, ?_⟩, fun q => (hs q).elim, fun _ => ?_⟩
    · rw [List.nodup_cons]
      exact ⟨e0, (hP.nd.erase _).erase _⟩
    · intro x hx
      rcases List.mem_cons.1 hx with rfl | hx
      · exact m0
      · exact (hL _).2 (.inl (hP.sub _ ((hme _).1 hx).2.2))
    · intro x hx
      rcases (hL x).1 hx with hx | rfl | rfl
      · by_cases hxb : Rl f b x
        · obtain ⟨i, i1, i2, rfl⟩ := hp.up hxb
          exact ⟨n0, List.mem_cons_self .., r0 i i1 i2⟩
        by_cases hxa : Rl f a x
        · obtain ⟨i, i1, i2, rfl⟩ := hq.up hxa
          exact ⟨n0, List.mem_cons_self .., r01.trans (r1 i i1 i2)⟩
        · obtain ⟨y, hy, r⟩ := hP.all x hx
          have ne1 : y ≠ ra := fun e => hxa ((rra.symm h (hP.sub ra hra)).trans (e ▸ r))
          have ne2 : y ≠ rb := fun e => hxb ((rrb.symm h (hP.sub rb hrb)).trans (e ▸ r))
          exact ⟨y, List.mem_cons_of_mem _ ((hme _).2 ⟨ne2, ne1, hy⟩), (rl_same h fz (hP.sub y hy) (hno hy ne1) (hno2 hy ne2) x).2 r⟩
      · exact ⟨x, List.mem_cons_self .., Rl.refl _⟩
      · exact ⟨n0, List.mem_cons_self .., r01⟩
    · have old : ∀ x ∈ (P.erase ra).erase rb, ¬ Rl f' x n0 := fun x hx => by
        obtain ⟨ne2, ne1, hxP⟩ := (hme x).1 hx
        exact out0 (hP.sub x hxP) (hno hxP ne1) (hno2 hxP ne2)
      intro x hx y hy r
      rcases List.mem_cons.1 hx with ex | hx
      · rcases List.mem_cons.1 hy with ey | hy
        · rw [ex, ey]
        · exact (old y hy ((ex ▸ r).symm h' m0)).elim
      · rcases List.mem_cons.1 hy with ey | hy
        · exact (old x hx (ey ▸ r)).elim
        · obtain ⟨ne2, ne1, hxP⟩ := (hme x).1 hx
          exact hP.one x hxP y ((hme y).1 hy).2.2 ((rl_same h fz (hP.sub x hxP) (hno hxP ne1) (hno2 hxP ne2) y).1 r)
    · have hl1 := List.length_erase_of_mem hra
      have hl2 := List.length_erase_of_mem hmb
      have := List.length_pos_of_mem hmb
      have := List.length_pos_of_mem hra
      simp only [List.length_cons]
      omega
end
end Go.Proofs.YtmkflebkifbpfaaGreat
/- Two places of a permutation are swapped: one orbit becomes two, or two become one. -/
namespace Go.Proofs.YtmkflebkifbpfaaGreat
open Go.RowKit
section
variable {α : Type} [DecidableEq α] {f f' : α → α} {L P : List α}
end
end Go.Proofs.YtmkflebkifbpfaaGreat
/- A range over a function whose iterator keeps one variable of its own in a block. -/
namespace Go.Proofs.YtmkflebkifbpfaaGreat
open Go.RowKit
/-- What a round keeps: the blocks of K. -/
structure KpS (K : Nat → Prop) (W W' : World) : Prop where
  size : W.heap.size ≤ W'.heap.size
  same : ∀ i, i < W.heap.size → K i → W'.heap[i]? = W.heap[i]?
theorem KpS.refl (K : Nat → Prop) (W : World) : KpS K W W := ⟨Nat.le_refl _, fun _ _ _ => rfl⟩
theorem KpS.trans {K : Nat → Prop} {A B C : World} (h : KpS K A B) (k : KpS K B C) : KpS K A C :=
  ⟨Nat.le_trans h.size k.size, fun i hi hk => (k.same i (Nat.lt_of_lt_of_le hi h.size) hk).trans (h.same i hi hk)⟩
theorem KpS.grown {K : Nat → Prop} {W W' : World} {row : Option Nat} (h : W.grownBy W' row) (hr : ∀ r, row = some r → ¬ K r) : KpS K W W' :=
  ⟨h.size, fun i hi hk => h.block i hi (fun e => hr i e.symm hk)⟩
theorem KpS.below {K : Nat → Prop} {n₀ : Nat} {W W' : World} (h : KpS K W W') : W.heap.size ≤ W'.heap.size := h.size
/-- It abides new blocks, and turns of those from b to b + 2. -/
def AbS (b : Nat) (I : World → Prop) : Prop := ∀ W W' r, I W → W.grownBy W' (some r) → b ≤ r → r ≤ b + 2 → I W'
/-- It abides new blocks, and turns of block B. -/
def AbI (B : Nat) (J : World → Prop) : Prop := ∀ W W', J W → W.grownBy W' (some B) → J W'
theorem grown_none {W W' : World} (h : W.grownBy W' none) (r : Nat) : W.grownBy W' (some r) := ⟨h.os, h.tape, h.output, h.size, fun k hk _ => h.block k hk (fun e => by cases e)⟩
theorem AbS.al {b : Nat} {I : World → Prop} (h : AbS b I) {W : World} (hi : I W) (o : Obj) : I (W.alloc o) :=
  h W _ b hi (grown_none (World.grownBy_alloc W o none) b) (Nat.le_refl _) (by omega)
theorem AbS.po {b : Nat} {I : World → Prop} (h : AbS b I) {W : World} (hi : I W) (r : Nat) (o : Obj) (h1 : b ≤ r) (h2 : r ≤ b + 2) : I (W.putObj r o) :=
  h W _ r hi (grownBy_putObj' W r o) h1 h2
/-- An iterator that keeps one variable of its own, called in W: the first block that it lays. -/
def ItS {α : Type} (P : Program) (g : Nat) (lb : Array Value) (encs : α → Array Value) (K : Nat → Prop) (S Sp : List α → Prop) (N : Nat) (W : World) : Prop :=
  ∀ (l : Nat) (J Jx : List α → World → Prop), (∀ p, AbI W.heap.size (J p)) → (∀ p, AbI W.heap.size (Jx p)) →
    (∀ pre x W1, J pre W1 → pre.length < N → W.heap.size < W1.heap.size → YieldAt Fence.wide 0 P l (encs x) W1 fun e W' =>
      (e = .returned (.bool true) ∧ J (pre ++ [x]) W' ∧ KpS K W1 W') ∨ (e = .returned (.bool false) ∧ Jx (pre ++ [x]) W')) →
    J [] W →
    CallsIn Fence.wide 0 P g (#[.func (.yield l) #[] #[]] ++ lb) W fun e W' => (∃ v, e = .returned v) ∧ ((∃ xs, S xs ∧ J xs W') ∨ (∃ pre, Sp pre ∧ Jx pre W'))
/-- How a round's body may be left. -/
def postS {α : Type} (K : Nat → Prop) (I : List α → World → Prop) (Ix : Code → List α → World → Prop) (xs : List α) (W : World) : Exit → Act → World → Prop
  | .normal, _, W' => KpS K W W' ∧ I xs W'
  | .ret, _, W' => KpS K W W' ∧ Ix .ret xs W'
  | .exit id, _, W' => KpS K W W' ∧ Ix (.exit id) xs W'
  | .goto t, _, W' => KpS K W W' ∧ Ix (.goto t) xs W'
  | .panic _, _, _ => False
  | .outgrown, _, _ => False
variable {P : Program}
theorem wpIn_roundS {α : Type} {g : Operand} {ps : Array Tmp} {assign body : Code} {Q : Exit → Act → World → Prop} {a : Act} {w : World}
    {gf : Nat} {lb : Array Value} (hg : a.eval g = .func (.func gf) #[] lb) (eg : ∀ args w, (callFunc gf args).run P w = .ok (.enter gf args) w)
    {encs : α → Array Value} (hps : ∀ x, (encs x).size = ps.size) (K : Nat → Prop) {S Sp : List α → Prop} {N : Nat} (hnk1 : ¬ K (w.heap.size + 1))
    (hit : ∀ r, ItS P gf lb encs K S Sp N ((w.alloc (.deferred (some []))).alloc (.loop r)))
    (I : List α → World → Prop) (I1 : List α → α → Act → World → Prop) (Ix : Code → List α → World → Prop) (hI : ∀ p, AbS w.heap.size (I p)) (hI1 : ∀ p x a', AbS w.heap.size (I1 p x a')) (hIx : ∀ c p, AbS w.heap.size (Ix c p)) (h0 : I [] w)
    (hassign : ∀ (l : Nat) (pre : List α) (x : α) (W : World) (R : Act → World → Prop), I pre W → w.heap.size + 3 ≤ W.heap.size → (∀ a' W', KpS (fun i => K i ∨ i = w.heap.size ∨ i = w.heap.size + 1) W W' → I1 pre x a' W' → R a' W') →
      assign.wpIn (Fence.wide.inRound l) 0 P (Exit.then R (fun _ _ _ => False)) { tmps := (ps.zip (encs x)).foldl (fun t (p, v) => t.setIfInBounds p v) a.tmps, defers := [] } W)
    (hbody : ∀ (l : Nat) (pre : List α) (x : α) (a' : Act) (W : World), I1 pre x a' W → pre.length < N → w.heap.size + 3 ≤ W.heap.size →
      body.wpIn (Fence.wide.inRound l) 0 P (postS (fun i => K i ∨ i = w.heap.size ∨ i = w.heap.size + 1) I Ix (pre ++ [x]) W) a' W)
    (hdone : ∀ (xs : List α) (W : World), S xs → I xs W → W.heap[w.heap.size]? = some (.deferred (some [])) → Q .normal { a with defers := { target := .collected w.heap.size, args := #[] } :: a.defers } W)
    (hstop : ∀ (c : Code) (pre : List α) (W : World), Sp pre → Ix c pre W → W.heap[w.heap.size]? = some (.deferred (some [])) → c.wpIn Fence.wide 0 P Q { a with defers := { target := .collected w.heap.size, args := #[] } :: a.defers } W) :
    (Code.rangeFunc g ps assign body).wpIn Fence.wide 0 P Q a w := by
  refine wpIn_rangeFunc fun fn hfn => ?_
  obtain ⟨rc, hrc⟩ : ∃ rc : LoopState → Option Code → Loop, rc = fun st pe => { state := st, pending := pe, fn, tmps := a.tmps, params := ps, assign, body, defers := w.heap.size } := ⟨_, rfl⟩
  obtain ⟨W1, hW1⟩ : ∃ z, (w.alloc (.deferred (some []))).alloc (.loop (rc .ready none)) = z := ⟨_, rfl⟩
  obtain ⟨b, hb⟩ : ∃ z, w.heap.size = z := ⟨_, rfl⟩
  have hs1 : W1.heap.size = b + 2 := by rw [← hW1, World.size_alloc, World.size_alloc, hb]
  have hl1 : W1.heap[b + 1]? = some (.loop (rc .ready none)) := by
    rw [← hW1, ← hb]; have := World.alloc_heap_new (w.alloc (.deferred (some []))) (.loop (rc .ready none)); rwa [World.size_alloc] at this
  have hd1 : W1.heap[b]? = some (.deferred (some [])) := by
    rw [← hW1, ← hb]; exact (Below.heap_alloc _ _ _ (by simp)).trans (World.alloc_heap_new w _)
  have hi1 : I [] W1 := by rw [← hW1]; exact (hI []).al ((hI []).al h0 _) _
  have hit1 := hit (rc .ready none)
  rw [hW1] at hit1
  rw [hb] at hnk1 hI hI1 hIx hassign hbody hdone hstop
  have hrun : (Instr.enterLoop fn a.tmps ps assign body none).run P w = .ok (b + 1, [{ target := .collected b, args := #[] }]) W1 := by
    rw [← hW1, hrc, ← hb]; exact run_enterLoop_outer _ _ _ _ _
  clear hW1 h0 hit
  refine ⟨b + 1, [{ target := .collected b, args := #[] }], W1, { target := .fn (.func gf) lb, args := #[.func (.yield (b + 1)) #[] #[]] }, W1, gf, #[.func (.yield (b + 1)) #[] #[]] ++ lb, W1, hrun, ?_, fun _ _ => trivial, ?_, fun h => (by cases h), ?_⟩
  · simp only [resolve, hg]
    simp [go_sem]
  · simp [invoke, go_sem, eg]
  refine (hit1 (b + 1)
    (fun p W => I p W ∧ W.heap[b + 1]? = some (.loop (rc .ready none)) ∧ W.heap[b]? = some (.deferred (some [])))
    (fun p W => ∃ c, Ix c p W ∧ W.heap[b + 1]? = some (.loop (rc .done (some c))) ∧ W.heap[b]? = some (.deferred (some [])))
    (fun p A B h hgr => ?_) (fun p A B h hgr => ?_) ?_ ⟨hi1, hl1, hd1⟩).mono ?_
  · have hx := fun (i : Nat) (o : Obj) (hi : i ≤ b + 1) (ho : A.heap[i]? = some o) => (hgr.block i (Array.getElem?_eq_some_iff.1 ho).1 (by rw [hs1]; intro e; cases e; omega)).trans ho
    exact ⟨hI p A B _ h.1 hgr (by omega) (by omega), hx _ _ (by omega) h.2.1, hx _ _ (by omega) h.2.2⟩
  · have hx := fun (i : Nat) (o : Obj) (hi : i ≤ b + 1) (ho : A.heap[i]? = some o) => (hgr.block i (Array.getElem?_eq_some_iff.1 ho).1 (by rw [hs1]; intro e; cases e; omega)).trans ho
    obtain ⟨c, h1, h2, h3⟩ := h
    exact ⟨c, hIx c p A B _ h1 hgr (by omega) (by omega), hx _ _ (by omega) h2, hx _ _ (by omega) h3⟩
  · rintro pre x W ⟨hi, hl, hd⟩ hlen hsz
    rw [hs1] at hsz
    have hy := run_yield (P := P) (args := encs x) hl (by rw [hrc]; exact hps x)
    rw [hrc] at hy
    refine ⟨fn, _, assign, body, hy, roundIn_of_wpIn hfn (hassign _ pre x W _ hi (by omega) ?_)⟩
    intro a' Wa hka ha
    replace hl := (hka.same _ (Array.getElem?_eq_some_iff.1 hl).1 (.inr (.inr rfl))).trans hl
    replace hd := (hka.same _ (Array.getElem?_eq_some_iff.1 hd).1 (.inr (.inl rfl))).trans hd
    have hlt := (Array.getElem?_eq_some_iff.1 hl).1
    refine ⟨_, run_beginRound hl (by rw [hrc]), ?_⟩
    obtain ⟨Wb, hWb⟩ : ∃ z, Wa.putObj (b + 1) (.loop { rc .ready none with state := .busy }) = z := ⟨_, rfl⟩
    have hlb : Wb.heap[b + 1]? = some (.loop { rc .ready none with state := .busy }) := by rw [← hWb]; exact World.putObj_heap_same hlt
    have hdb : Wb.heap[b]? = some (.deferred (some [])) := by rw [← hWb]; exact (World.putObj_heap_other (by omega)).trans hd
    have hkb : KpS K Wa Wb := by rw [← hWb]; exact KpS.grown (grownBy_putObj' _ _ _) (fun r e => by cases e; exact hnk1)
    have hab : I1 pre x a' Wb := by rw [← hWb]; exact (hI1 pre x a').po ha _ _ (by omega) (by omega)
    rw [hWb]
    clear hWb
    have hka' : KpS K W Wa := ⟨hka.size, fun i h1 h2 => hka.same i h1 (.inl h2)⟩
    have fin : ∀ (jump : Option Code) (W3 : World), KpS (fun i => K i ∨ i = b ∨ i = b + 1) Wb W3 →
        (Instr.endRound (b + 1) jump).run P W3 = .ok (.bool jump.isNone) (W3.putObj (b + 1) (.loop (rc (if jump.isNone then .ready else .done) jump))) ∧
        (W3.putObj (b + 1) (.loop (rc (if jump.isNone then .ready else .done) jump))).heap[b + 1]? = some (.loop (rc (if jump.isNone then .ready else .done) jump)) ∧
        (W3.putObj (b + 1) (.loop (rc (if jump.isNone then .ready else .done) jump))).heap[b]? = some (.deferred (some [])) ∧
        KpS K W (W3.putObj (b + 1) (.loop (rc (if jump.isNone then .ready else .done) jump))) := fun jump W3 hk3 => by
      have hl3 := (hk3.same _ (Array.getElem?_eq_some_iff.1 hlb).1 (.inr (.inr rfl))).trans hlb
      have hd3 := (hk3.same _ (Array.getElem?_eq_some_iff.1 hdb).1 (.inr (.inl rfl))).trans hdb
      have he := run_endRound (P := P) jump hl3
      rw [hrc] at he ⊢
      exact ⟨he, World.putObj_heap_same (Array.getElem?_eq_some_iff.1 hl3).1, (World.putObj_heap_other (by omega)).trans hd3,
        hka'.trans (hkb.trans (KpS.trans ⟨hk3.size, fun i h1 h2 => hk3.same i h1 (.inl h2)⟩ (KpS.grown (grownBy_putObj' _ _ _) (fun r e => by cases e; exact hnk1))))⟩
    refine wpIn_mono (hbody _ pre x a' Wb hab hlen (by have h1 := hka.size; have h2 := hkb.size; omega)) ?_
    rintro e a3 W3 hp
    cases e with
    | normal =>
      obtain ⟨h1, h2, h3, h4⟩ := fin none W3 hp.1
      exact ⟨_, _, h1, .inl ⟨rfl, ⟨(hI _).po hp.2 _ _ (by omega) (by omega), h2, h3⟩, h4⟩⟩
    | ret =>
      obtain ⟨h1, h2, h3, _⟩ := fin (some .ret) W3 hp.1
      exact ⟨_, _, h1, .inr ⟨rfl, .ret, (hIx _ _).po hp.2 _ _ (by omega) (by omega), h2, h3⟩⟩
    | exit id =>
      obtain ⟨h1, h2, h3, _⟩ := fin (some (.exit id)) W3 hp.1
      exact ⟨_, _, h1, .inr ⟨rfl, .exit id, (hIx _ _).po hp.2 _ _ (by omega) (by omega), h2, h3⟩⟩
    | goto t =>
      obtain ⟨h1, h2, h3, _⟩ := fin (some (.goto t)) W3 hp.1
      exact ⟨_, _, h1, .inr ⟨rfl, .goto t, (hIx _ _).po hp.2 _ _ (by omega) (by omega), h2, h3⟩⟩
    | panic ch => exact hp.elim
    | outgrown => exact hp.elim
  · rintro e W2 ⟨⟨v, rfl⟩, ⟨xs, hS, hi, hl, hd⟩ | ⟨pre, hSp, c, hi, hl, hd⟩⟩
    · have he := run_endLoop (P := P) hl (by rw [hrc]; simp)
      refine ⟨none, _, by rw [hrc] at he; exact he, hdone xs _ hS ((hI _).po hi _ _ (by omega) (by omega)) ((World.putObj_heap_other (by omega)).trans hd)⟩
    · have he := run_endLoop (P := P) hl (by rw [hrc]; simp)
      refine ⟨some c, _, by rw [hrc] at he; exact he, hstop c pre _ hSp ((hIx _ _).po hi _ _ (by omega) (by omega)) ((World.putObj_heap_other (by omega)).trans hd)⟩
end Go.Proofs.YtmkflebkifbpfaaGreat
/- A map in memory as a function of its keys, whatever its keys and elements. -/
namespace Go.Proofs.YtmkflebkifbpfaaGreat
open Go.RowKit Go.Maps
/-- An element reads as itself. -/
def RVv (v : Value) : Option (DataW Value × List MemPlace) := some (.held v, [])
/-- A kind of keys. -/
structure KeyK (P : Program) (K : TypeId) (κ : Type) where
  enc : κ → Value
  kl : κ → Lit
  wf : κ → Prop
  keyed : Keyed P K
  key : ∀ x, wf x → keyOf P K (enc x) = some (kl x)
  inj : ∀ x y, wf x → wf y → kl x = kl y → x = y
  lit : ∀ x, wf x → WideAt.IsKeyLit (kl x)
section
variable {P : Program} {t K e : TypeId} {κ : Type} [DecidableEq κ] {k : KeyK P K κ} {b n : Nat} {f : κ → Option Value} {w w' : World} {x : κ}
/-- Block b is a map of at most n entries that answers as f. -/
def MapF (w : World) (k : KeyK P K κ) (b n : Nat) (f : κ → Option Value) : Prop :=
  ∃ D : DataW Value, w.ownsMap P K RVv b n D ∧ ∀ x, k.wf x → has D (k.kl x) = (f x).isSome ∧ ∀ z, D.atKey (k.kl x) (.held z) = .held ((f x).getD z)
theorem MapF.lt (h : MapF w k b n f) : b < w.heap.size := let ⟨_, h1, _⟩ := h; World.ownsMap.lt h1
theorem MapF.mono {n' : Nat} (h : MapF w k b n f) (hn : n ≤ n') : MapF w k b n' f := let ⟨D, h1, h2⟩ := h; ⟨D, World.ownsMap.mono h1 hn, h2⟩
theorem MapF.kept {S : Nat → Prop} (h : MapF w k b n f) (hk : Kept S w w') (hb : ¬ S b) : MapF w' k b n f := by
  obtain ⟨D, h0, h2⟩ := h
  have hlt := World.ownsMap.lt h0
  obtain ⟨es, clock, h1, F, hs, hD⟩ := h0
  exact ⟨D, ⟨es, clock, (hk.block b hlt hb).trans h1, F, hs, hD⟩, h2⟩
theorem MapF.bl (h : MapF w k b n f) (hb : Below w.heap.size w w') : MapF w' k b n f := h.kept (Kept.of_below (S := fun _ => False) hb) (fun e => e)
theorem MapF.al (h : MapF w k b n f) (o : Obj) : MapF (w.alloc o) k b n f := h.bl ((Below.refl _ w).alloc (Nat.le_refl _) o)
theorem MapF.dr (h : MapF w k b n f) : MapF w.drew k b n f := h.bl ((Below.refl _ _).drew)
theorem MapF.grown {r : Option Nat} (h : MapF w k b n f) (hg : w.grownBy w' r) (hr : some b ≠ r) : MapF w' k b n f :=
  h.kept (S := fun i => some i = r) ⟨hg.os, hg.tape, hg.output, hg.size, fun i hi hn => hg.block i hi hn⟩ hr
theorem MapF.made : MapF (w.alloc (.map #[] 0)) k w.heap.size 0 (fun _ => none) :=
  ⟨.map [], World.ownsMap_made _ _ _ _, fun x hx => ⟨by simp [has], fun z => WideAt.atKey_none (.held z) (fun p hp => by cases hp)⟩⟩
theorem MapF.look (h : MapF w k b n f) (ht : P.underlying t = some (.map K e)) {z : Value} (hz : (zeroValue e).run P w = .ok z w) (hx : k.wf x) :
    (Instr.lookup t (.map (some b)) (k.enc x) true).run P w = .ok (.tuple #[(f x).getD z, .bool (f x).isSome]) w := by
  obtain ⟨D, h1, h2⟩ := h
  obtain ⟨v, ps, hrun, hv⟩ := World.ownsMap.look_ok h1 k.keyed ht hz (zd := .held z) (zp := []) rfl (k.key x hx)
  obtain ⟨h3, h4⟩ := h2 x hx
  have h5 := (Prod.mk.inj (Option.some.inj hv)).1
  rw [h4 z] at h5
  injection h5 with h5
  rw [hrun, h3, ← h5]
theorem MapF.put (h : MapF w k b n f) (ht : P.underlying t = some (.map K e)) (hn : n < maxLen) (hx : k.wf x) (v : Value) :
    ∃ w', (Instr.mapUpdate t (.map (some b)) (k.enc x) v).run P w = .ok () w' ∧ MapF w' k b (n + 1) (fun y => if y = x then some v else f y) ∧ w.grownBy w' (some b) := by
  obtain ⟨D, h1, h2⟩ := h
  obtain ⟨w', h3, h4, h5⟩ := World.ownsMap.store h1 k.keyed ht hn (k.key x hx) (d := .held v) (ps := []) rfl
  refine ⟨w', h3, ⟨_, h4, fun y hy => ?_⟩, h5.grown⟩
  by_cases e : y = x
  · subst e
    simp only [if_pos, Option.isSome_some, Option.getD_some]
    exact ⟨has_put_same (World.ownsMap.isMap h1) (k.lit y hx) _, fun z => atKey_put_same (World.ownsMap.isMap h1) (k.lit y hx) _ _⟩
  · simp only [if_neg e]
    rw [has_put_other (fun q => e (k.inj _ _ hy hx q))]
    exact ⟨(h2 y hy).1, fun z => by rw [atKey_put_other (fun q => e (k.inj _ _ hy hx q))]; exact (h2 y hy).2 z⟩
end
theorem exec_mapPut {P : Program} {ev : Operand → Value} {o : Oper} {w w' : World} {t : TypeId} {m x v : Operand} {key val : Value} {b : Option Nat} (ho : o.op = .mapUpdate t m x v) (hm : ev m = .map b) (hx : ev x = key) (hv : ev v = val)
    (hrun : (Instr.mapUpdate t (.map b) key val).run P w = .ok () w') : (execOp ev o).run P w = .ok .skip w' := by
  simp [execOp, ho, hm, hx, hv, hrun, Result.andThen]
theorem exec_mapLook {P : Program} {ev : Operand → Value} {o : Oper} {w w' : World} {t : TypeId} {m x : Operand} {key v : Value} {b : Option Nat} (ho : o.op = .lookup t m x true) (hm : ev m = .map b) (hx : ev x = key)
    (hrun : (Instr.lookup t (.map b) key true).run P w = .ok v w') : (execOp ev o).run P w = .ok (.value v) w' := by
  simp [execOp, ho, hm, hx, hrun, Result.andThen]
section
variable {P : Program} {t K e : TypeId} {κ : Type} [DecidableEq κ] {k : KeyK P K κ} {b n : Nat} {f : κ → Option Value} {w : World} {x : κ} {ops : Array Oper} {rest : List Oper} {o : Oper} {a : Act} {Q : Exit → Act → World → Prop}
theorem wl_mapLook (hg : o.guard = none) (m y : Operand) (ho : o.op = .lookup t m y true) (hm : a.eval m = .map (some b)) (h : MapF w k b n f) (ht : P.underlying t = some (.map K e)) {z : Value} (hz : (zeroValue e).run P w = .ok z w) (hx : k.wf x)
    (hy : a.eval y = k.enc x) (hK : wpList P ops Q rest (a.put o.dst (.tuple #[(f x).getD z, .bool (f x).isSome])) w) : wpList P ops Q (o :: rest) a w := by
  refine wpList_plain hg fun K' hK' => ?_
  unfold Oper.wp
  rw [exec_mapLook ho hm hy (h.look ht hz hx)]
  exact hK' _ _ hK
theorem wl_mapPut (hg : o.guard = none) (m y v : Operand) (ho : o.op = .mapUpdate t m y v) (hm : a.eval m = .map (some b)) (h : MapF w k b n f) (ht : P.underlying t = some (.map K e)) (hn : n < maxLen) (hx : k.wf x)
    (hy : a.eval y = k.enc x) {u : Value} (hv : a.eval v = u) (hK : ∀ w', MapF w' k b (n + 1) (fun y => if y = x then some u else f y) → w.grownBy w' (some b) → wpList P ops Q rest (a.put o.dst undef) w') : wpList P ops Q (o :: rest) a w := by
  refine wpList_plain hg fun K' hK' => ?_
  obtain ⟨w', h1, h2, h3⟩ := h.put ht hn hx u
  unfold Oper.wp
  rw [exec_mapPut ho hm hy hv h1]
  exact hK' _ _ (hK w' h2 h3)
end
end Go.Proofs.YtmkflebkifbpfaaGreat
/- Names and darts as keys of maps. -/
namespace Go.Proofs.YtmkflebkifbpfaaGreat
open Go.RowKit Go.Maps
def keyDart : KeyK Tryz.prog 49 D where
  enc d := .agg #[.int .i64 d.1, .int .i64 d.2.1, .int .i64 d.2.2]
  kl := kD
  wf := wfD
  keyed := keyed_dart
  key := key_dart
  inj _ _ := kD_inj
  lit _ := kD_key
abbrev I2 := Int × Int
def wfI (d : I2) : Prop := (Lit.int .i64 d.1).wf = true ∧ (Lit.int .i64 d.2).wf = true
def kI (d : I2) : Lit := .string (keyBytes [.int .i64 d.1, .int .i64 d.2])
theorem wide_id : (match Tryz.prog.underlying 41 with | some (.array _ _) | some (.struct _) => true | _ => false) = true := by rw [Tryz.underlying41]
set_option maxRecDepth 100000 in
theorem law_id : WideMaps.KeyLaw Tryz.prog 41 := deep_law_laid laid_prog (m := 2) (by omega) (by show 41 < Tryz.prog.types.size; decide) (by kernel_rfl) wide_id
theorem keyed_id : Keyed Tryz.prog 41 := Keyed.of_law law_id
theorem lits_id (m : Nat) (d : I2) (h : wfI d) : Tryz.prog.keyLits (m + 2) 41 [.int .i64 d.1, .int .i64 d.2] = some [.int .i64 d.1, .int .i64 d.2] := by
  obtain ⟨h1, h2⟩ := h
  have c2 : Tryz.prog.cellsOf 41 = 2 := by kernel_rfl
  have c3 : Tryz.prog.cellsOf 3 = 1 := by kernel_rfl
  have i1 : ∀ (n : Nat) (x : Int), (Lit.int .i64 x).wf = true → Tryz.prog.keyLits (n + 1) 3 [.int .i64 x] = some [.int .i64 x] := fun n x hx => by simp [Program.keyLits, Tryz.underlying3, hx]
  unfold Program.keyLits
  simp only [Tryz.underlying41, c2]
  rw [if_pos ⟨rfl, by kernel_rfl⟩]
  simp [c3, i1, h1, h2]
theorem key_id (d : I2) (h : wfI d) : keyOf Tryz.prog 41 (.agg #[.int .i64 d.1, .int .i64 d.2]) = some (kI d) := by
  have hk : Tryz.prog.keyType 41 = true := by kernel_rfl
  have c1 : Tryz.prog.cellsOf 41 = 2 := by kernel_rfl
  have hf : (Value.agg #[.int .i64 d.1, .int .i64 d.2]).formed Tryz.prog 41 = true := by simp [Value.formed, Tryz.underlying41, c1]
  obtain ⟨m, hm⟩ : ∃ m, Tryz.prog.types.size + 1 = m + 2 := ⟨Tryz.prog.types.size - 1, by kernel_rfl⟩
  have hl := lits_id m d h
  rw [← hm] at hl
  unfold keyOf
  simp only [Tryz.underlying41, hk, hf, Value.cells, Bool.and_self, if_true]
  rw [hl]
  rfl
theorem kI_inj {a b : I2} (ha : wfI a) (hb : wfI b) (h : kI a = kI b) : a = b := by
  have := keyed_id.inj (key_id a ha) (by rw [h]; exact key_id b hb)
  simp at this
  exact Prod.ext this.1 this.2
def keyID : KeyK Tryz.prog 41 I2 where
  enc d := .agg #[.int .i64 d.1, .int .i64 d.2]
  kl := kI
  wf := wfI
  keyed := keyed_id
  key := key_id
  inj _ _ := kI_inj
  lit _ h := keyed_id.key (key_id _ h)
theorem zero_intK (w : World) : (zeroValue 3).run Tryz.prog w = .ok (.int .i64 0) w := by
  obtain ⟨i, hi, hz⟩ : ∃ i, Tryz.prog.info? 3 = some i ∧ i.zero = some (.int .i64 0) := by
    have h : (Tryz.prog.info? 3).map (·.zero) = some (some (.int .i64 0)) := by kernel_rfl
    cases h2 : Tryz.prog.info? 3 with
    | none => rw [h2] at h; cases h
    | some i => rw [h2] at h; exact ⟨i, rfl, by simpa using h⟩
  simp [zeroValue, typeInfo, hi, hz]
end Go.Proofs.YtmkflebkifbpfaaGreat
/- A map whose keys are darts: what it answers, and which keys it has. -/
namespace Go.Proofs.YtmkflebkifbpfaaGreat
open Go.RowKit Go.Maps
def dV (d : D) : Value := .agg #[.int .i64 d.1, .int .i64 d.2.1, .int .i64 d.2.2]
/-- Block b is a map of at most n entries, with the keys S, that answers as f. -/
def MapD (w : World) (b n : Nat) (f : D → Option Value) (S : List D) : Prop :=
  ∃ Dt : DataW Value, w.ownsMap Tryz.prog 49 RVv b n Dt ∧ (∀ x, wfD x → has Dt (kD x) = (f x).isSome ∧ ∀ z, Dt.atKey (kD x) (.held z) = .held ((f x).getD z)) ∧ SetD Dt S
section
variable {b n : Nat} {f : D → Option Value} {S : List D} {w w' : World} {x : D} {t e : TypeId}
theorem MapD.lt (h : MapD w b n f S) : b < w.heap.size := let ⟨_, h1, _⟩ := h; World.ownsMap.lt h1
theorem MapD.mono {n' : Nat} (h : MapD w b n f S) (hn : n ≤ n') : MapD w b n' f S := let ⟨D, h1, h2⟩ := h; ⟨D, World.ownsMap.mono h1 hn, h2⟩
theorem MapD.at_ (h : MapD w b n f S) (hb : w'.heap[b]? = w.heap[b]?) : MapD w' b n f S := by
  obtain ⟨D, ⟨es, clock, h1, F, hs, hD⟩, h2⟩ := h
  exact ⟨D, ⟨es, clock, hb.trans h1, F, hs, hD⟩, h2⟩
theorem MapD.kept {S' : Nat → Prop} (h : MapD w b n f S) (hk : Kept S' w w') (hb : ¬ S' b) : MapD w' b n f S := h.at_ (hk.block b h.lt hb)
theorem MapD.bl (h : MapD w b n f S) (hb : Below w.heap.size w w') : MapD w' b n f S := h.kept (Kept.of_below (S := fun _ => False) hb) (fun e => e)
theorem MapD.al (h : MapD w b n f S) (o : Obj) : MapD (w.alloc o) b n f S := h.bl ((Below.refl _ w).alloc (Nat.le_refl _) o)
theorem MapD.dr (h : MapD w b n f S) : MapD w.drew b n f S := h.bl ((Below.refl _ _).drew)
theorem MapD.grown {r : Option Nat} (h : MapD w b n f S) (hg : w.grownBy w' r) (hr : some b ≠ r) : MapD w' b n f S := h.at_ (hg.block b h.lt hr)
theorem MapD.made : MapD (w.alloc (.map #[] 0)) w.heap.size 0 (fun _ => none) [] :=
  ⟨.map [], World.ownsMap_made _ _ _ _, fun x hx => ⟨by simp [has], fun z => WideAt.atKey_none (.held z) (fun p hp => by cases hp)⟩, SetD.empty⟩
theorem MapD.mapF (h : MapD w b n f S) : MapF w keyDart b n f := let ⟨D, h1, h2, _⟩ := h; ⟨D, h1, h2⟩
theorem MapD.keys (h : MapD w b n f S) (hx : wfD x) : x ∈ S ↔ (f x).isSome = true := by
  obtain ⟨Dt, h1, h2, h3⟩ := h
  rw [← (h2 x hx).1, h3.has x hx, decide_eq_true_eq]
theorem MapD.wf (h : MapD w b n f S) : ∀ d ∈ S, wfD d := let ⟨_, _, _, h3⟩ := h; h3.wf
theorem MapD.nd (h : MapD w b n f S) : S.Nodup := let ⟨_, _, _, h3⟩ := h; h3.nd
theorem MapD.put (h : MapD w b n f S) (ht : Tryz.prog.underlying t = some (.map 49 e)) (hn : n < maxLen) (hx : wfD x) (v : Value) :
    ∃ w', (Instr.mapUpdate t (.map (some b)) (dV x) v).run Tryz.prog w = .ok () w' ∧ MapD w' b (n + 1) (fun y => if y = x then some v else f y) (insD x S) ∧ w.grownBy w' (some b) := by
  obtain ⟨Dt, h1, h2, h3⟩ := h
  obtain ⟨w', r3, r4, r5⟩ := World.ownsMap.store h1 keyed_dart ht hn (key_dart x hx) (d := .held v) (ps := []) rfl
  refine ⟨w', r3, ⟨_, r4, fun y hy => ?_, h3.put x hx _⟩, r5.grown⟩
  by_cases e : y = x
  · subst e
    simp only [if_pos, Option.isSome_some, Option.getD_some]
    exact ⟨has_put_same (World.ownsMap.isMap h1) (kD_key hy) _, fun z => atKey_put_same (World.ownsMap.isMap h1) (kD_key hy) _ _⟩
  · simp only [if_neg e]
    rw [has_put_other (fun q => e (kD_inj hy hx q))]
    exact ⟨(h2 y hy).1, fun z => by rw [atKey_put_other (fun q => e (kD_inj hy hx q))]; exact (h2 y hy).2 z⟩
variable {ops : Array Oper} {rest : List Oper} {o : Oper} {a : Act} {Q : Exit → Act → World → Prop}
/-- How many entries there are. -/
theorem wl_dLen (hg : o.guard = none) (m : Operand) (hop : o.op = Op.call { callee := Callee.builtin Builtin.len, args := #[m], argTypes := #[t] }) (ht : Tryz.prog.underlying t = some (.map 49 e)) (hm : a.eval m = .map (some b)) (hS : MapD w b n f S)
    (hK : wpList Tryz.prog ops Q rest (a.put o.dst (.int .i64 (S.length : Int))) w) : wpList Tryz.prog ops Q (o :: rest) a w := by
  obtain ⟨Dt, h1, h2, h3⟩ := hS
  refine wpList_len_own w hg m t hop 49 e ht RVv b n Dt hm h1 ?_
  rw [h3.size]
  exact hK
end
end Go.Proofs.YtmkflebkifbpfaaGreat
/- A name that is brought in among names that rise; labels cut and joined; a vertex's cell that is set. -/
namespace Go.Proofs.YtmkflebkifbpfaaGreat
open Go.RowKit
section
variable {Vs : List VC} {Es : List EC}
end
/-- One label is another. -/
def setLab (v : VC) (s : ByteArray) : VC := (v.1, v.2.1, s, v.2.2.2)
theorem map_setSame {α β : Type} (f : α → β) (L : List α) (j : Nat) (x y : α) (hx : L[j]? = some x) (h : f y = f x) : (L.set j y).map f = L.map f := by
  rw [List.map_set, h]
  apply List.ext_getElem?
  intro i
  rw [List.getElem?_set]
  split
  · rename_i e
    subst e
    have hj := (List.getElem?_eq_some_iff.1 hx).1
    rw [List.length_map, if_pos hj, List.getElem?_map, hx]
    rfl
  · rfl
theorem all_map {α β : Type} (f : α → β) (p : β → Bool) (L : List α) : L.all (fun x => p (f x)) = (L.map f).all p := by rw [List.all_map]; rfl
theorem formD_same {Vs Ws : List VC} {Es : List EC} (h : Ws.map vS = Vs.map vS) : formD Ws Es = formD Vs Es := by
  have hl : Ws.length = Vs.length := by simpa using congrArg List.length h
  have e1 : Ws.map (·.1) = Vs.map (·.1) := by
    have := congrArg (List.map (fun s : (Int × Int) × List D × ByteArray × Int => s.1)) h
    simpa [List.map_map, Function.comp_def, vS] using this
  have e2 : Ws.map (·.2.1.2.2.2) = Vs.map (·.2.1.2.2.2) := by
    have := congrArg (List.map (fun s : (Int × Int) × List D × ByteArray × Int => s.2.1)) h
    simpa [List.map_map, Function.comp_def, vS] using this
  have e3 : Ws.map (·.2.2.1) = Vs.map (·.2.2.1) := by
    have := congrArg (List.map (fun s : (Int × Int) × List D × ByteArray × Int => s.2.2.1)) h
    simpa [List.map_map, Function.comp_def, vS] using this
  have e4 : Ws.map (·.2.2.2) = Vs.map (·.2.2.2) := by
    have := congrArg (List.map (fun s : (Int × Int) × List D × ByteArray × Int => s.2.2.2)) h
    simpa [List.map_map, Function.comp_def, vS] using this
  have r : ∀ Us : List VC, ringsOf Us = (Us.map (·.2.1.2.2.2)).flatten := fun Us => by rw [ringsOf, List.flatMap_def]
  have t : ∀ Us : List VC, Us.all turnOk = (Us.map (·.2.1.2.2.2)).all (fun L => decide (L = turnD L)) := fun Us => by rw [List.all_map]; rfl
  have l : ∀ Us : List VC, Us.all (fun v => mayL v.2.2.1) = (Us.map (·.2.2.1)).all mayL := fun Us => by rw [List.all_map]; rfl
  have a : ∀ Us : List VC, Us.all (fun v => mayA v.2.2.2) = (Us.map (·.2.2.2)).all mayA := fun Us => by rw [List.all_map]; rfl
  unfold formD
  rw [hl, e1, r Ws, r Vs, e2, t Ws, t Vs, e2, l Ws, l Vs, e3, a Ws, a Vs, e4]
theorem Formed.same {Vs Ws : List VC} {Es : List EC} (hf : Formed Vs Es) (h : Ws.map vS = Vs.map vS) : Formed Ws Es := (form0 Ws Es).1 ((formD_same h).trans ((form0 Vs Es).2 hf))
/-- A diagram that is well formed, with another label at one of its vertices. -/
theorem Formed.label {Vs : List VC} {Es : List EC} (h : Formed Vs Es) {j : Nat} {x : VC} (hx : Vs[j]? = some x) (s : ByteArray) : formD (Vs.set j (setLab x s)) Es = if mayL s then 0 else 4 := by
  have hj := (List.getElem?_eq_some_iff.1 hx).1
  have e0 : decide (24 < (Vs.set j (setLab x s)).length ∨ 40 < Es.length) = false := decide_eq_false (by have := h.v24; have := h.e40; rw [List.length_set]; omega)
  have e1 := map_setSame (fun v : VC => v.1) Vs j x (setLab x s) hx rfl
  have e2 : ringsOf (Vs.set j (setLab x s)) = ringsOf Vs := by
    rw [ringsOf, ringsOf, List.flatMap_def, List.flatMap_def, map_setSame (fun v : VC => v.2.1.2.2.2) Vs j x (setLab x s) hx rfl]
  have t : ∀ Us : List VC, Us.all turnOk = (Us.map (fun v : VC => v.2.1.2.2.2)).all (fun L => decide (L = turnD L)) := fun Us => by rw [List.all_map]; rfl
  have a : ∀ Us : List VC, Us.all (fun v => mayA v.2.2.2) = (Us.map (fun v : VC => v.2.2.2)).all mayA := fun Us => by rw [List.all_map]; rfl
  have e3 : (Vs.set j (setLab x s)).all turnOk = Vs.all turnOk := by
    rw [t, t, map_setSame (fun v : VC => v.2.1.2.2.2) Vs j x (setLab x s) hx rfl]
  have e4 : (Vs.set j (setLab x s)).all (fun v => mayA v.2.2.2) = Vs.all (fun v => mayA v.2.2.2) := by
    rw [a, a, map_setSame (fun v : VC => v.2.2.2) Vs j x (setLab x s) hx rfl]
  have e5 : (Vs.set j (setLab x s)).all (fun v => mayL v.2.2.1) = mayL s := by
    rw [Bool.eq_iff_iff, List.all_eq_true]
    constructor
    · intro ha
      exact ha (setLab x s) (List.mem_of_getElem? (i := j) (by rw [List.getElem?_set, if_pos rfl, if_pos hj]))
    · intro hs v hv
      rcases List.mem_or_eq_of_mem_set hv with hv | rfl
      · exact List.all_eq_true.1 h.lv v hv
      · exact hs
  unfold formD formB
  rw [e0, e1, e2, e3, e4, e5, h.rv, h.re, h.tu, (onceF_perm _ _).2 h.pm, h.le, h.av, h.ae]
  cases mayL s <;> rfl
/-- One cell of a range is set. -/
theorem putR_set {cs vs : List Value} {o i : Nat} {u : Value} (hc : ∀ j v, vs[j]? = some v → cs[o + j]? = some v) (hi : i < vs.length) (hl : o + vs.length ≤ cs.length) : putR cs o (vs.set i u) = cs.set (o + i) u := by
  unfold putR
  rw [List.length_set]
  apply List.ext_getElem?
  intro p
  rw [List.getElem?_set]
  have ht : (cs.take o).length = o := by rw [List.length_take]; omega
  rcases Nat.lt_or_ge p o with h1 | h1
  · rw [List.getElem?_append_left (by omega), List.getElem?_take, if_pos h1, if_neg (by omega)]
  · rw [List.getElem?_append_right (by omega), ht]
    rcases Nat.lt_or_ge (p - o) vs.length with h2 | h2
    · rw [List.getElem?_append_left (by rw [List.length_set]; exact h2), List.getElem?_set]
      by_cases h3 : i = p - o
      · subst h3
        rw [if_pos rfl, if_pos h2, if_pos (by omega), if_pos (by omega)]
      · rw [if_neg h3, if_neg (by omega)]
        have := hc (p - o) _ (List.getElem?_eq_getElem h2)
        rw [show o + (p - o) = p by omega] at this
        rw [this, List.getElem?_eq_getElem h2]
    · rw [List.getElem?_append_right (by rw [List.length_set]; exact h2), List.length_set, List.getElem?_drop, if_neg (by omega)]
      congr 1
      omega
/-- One cell of an element of a row of the call's own is set. -/
theorem own_poke {α : Type} {f : α → List Value} {s : Nat} (hs : ∀ x, (f x).length = s) {W : World} {lo n c : Nat} {T : TypeId} {A : Option Addr} {L : List α} (h : W.ownsRow lo T s (.slice A n c) n (rowsV f L)) {j i : Nat} {x y : α} {u : Value}
    (hx : L[j]? = some x) (hn : j < n) (hi : i < s) (hy : f y = (f x).set i u) :
    ∃ g junk, A = some ⟨g, 0, none⟩ ∧ lo ≤ g ∧ Whole W g T (rowsV f L ++ junk) ∧ W.cell? ⟨g, j * s + i, none⟩ = (f x)[i]? ∧ W.frozen? ⟨g, j * s + i, none⟩ = false ∧
      (W.setCell ⟨g, j * s + i, none⟩ u).ownsRow lo T s (.slice A n c) n (rowsV f (L.set j y)) := by
  obtain ⟨g, junk, rfl, hlo, hw, hl, hnc, hcm, hxl⟩ := own_place h (by omega)
  have hlen := rowsV_length f hs L
  have hj := (List.getElem?_eq_some_iff.1 hx).1
  have hjl : (j + 1) * s ≤ L.length * s := Nat.mul_le_mul_right _ hj
  rw [Nat.succ_mul] at hjl
  have hg : ∀ p v, (f x)[p]? = some v → (rowsV f L ++ junk)[j * s + p]? = some v := fun p v hv => by
    have h1 := rowsV_get f hs L j x hx p v hv
    rw [List.getElem?_append_left (List.getElem?_eq_some_iff.1 h1).1]
    exact h1
  have hi' : i < (f x).length := by rw [hs]; exact hi
  have hput : putR (rowsV f L ++ junk) (j * s) (f y) = (rowsV f L ++ junk).set (j * s + i) u := by
    rw [hy]
    exact putR_set hg hi' (by rw [List.length_append, hs]; omega)
  rw [rowsV_put hs L junk j y hj] at hput
  have hw2 := hw.set_ (j * s + i) u
  rw [← hput] at hw2
  refine ⟨g, junk, rfl, hlo, hw, ?_, hw.free _, own_mk hw2 hlo ?_ hnc hcm ?_⟩
  · rw [List.getElem?_eq_getElem hi']
    exact hw.cell (hg i _ (List.getElem?_eq_getElem hi'))
  · rw [hput, List.length_set]
    exact hl
  · rw [rowsV_length f hs, List.length_set, ← hlen]
    exact hxl
end Go.Proofs.YtmkflebkifbpfaaGreat
/- comp.join, comp.place. -/
namespace Go.Proofs.YtmkflebkifbpfaaGreat
open Go.RowKit
def n1 (x : Int) : List Value := [.int .i64 x]
theorem n1_len (x : Int) : (n1 x).length = 1 := rfl
/-- One part of the parts a and b. -/
def joinF (L : List Int) (a b : Int) : List Int := L.map fun x => if x = a ∨ x = b then min a b else x
theorem join_next {L : List Int} {a b x : Int} {j : Nat} (h : L[j]? = some x) : (joinF (L.take j) a b ++ L.drop j).set j (if x = a ∨ x = b then min a b else x) = joinF (L.take (j + 1)) a b ++ L.drop (j + 1) := by
  obtain ⟨hj, e⟩ := List.getElem?_eq_some_iff.1 h
  have hl : (joinF (L.take j) a b).length = j := by simp [joinF]; omega
  rw [List.set_append_right _ _ (by omega), hl, Nat.sub_self, List.drop_eq_getElem_cons hj, e, List.set_cons_zero, List.take_succ_eq_append_getElem hj, e]
  simp [joinF]
theorem join_skip {L : List Int} {a b x : Int} {j : Nat} (h : L[j]? = some x) (hx : ¬ (x = a ∨ x = b)) : joinF (L.take j) a b ++ L.drop j = joinF (L.take (j + 1)) a b ++ L.drop (j + 1) := by
  obtain ⟨hj, e⟩ := List.getElem?_eq_some_iff.1 h
  rw [List.drop_eq_getElem_cons hj, e, List.take_succ_eq_append_getElem hj, e]
  simp [joinF, hx]
theorem join_at {L : List Int} {a b x : Int} {j : Nat} (h : L[j]? = some x) : (joinF (L.take j) a b ++ L.drop j)[j]? = some x := by
  obtain ⟨hj, e⟩ := List.getElem?_eq_some_iff.1 h
  have hl : (joinF (L.take j) a b).length = j := by simp [joinF]; omega
  rw [List.getElem?_append_right (by omega), hl, Nat.sub_self, List.getElem?_drop, Nat.add_zero]
  exact h
set_option maxRecDepth 100000 in
set_option maxHeartbeats 4000000 in
theorem join_any (g n c : Nat) (L : List Int) (a b : Int) (lo : Nat) (w : World) (h : w.ownsRow lo 3 1 (.slice (some ⟨g, 0, none⟩) n c) n (rowsV n1 L)) (hn : n ≤ 1000000) (hl : L.length = n) :
    Calls Tryz.prog 113 #[.slice (some ⟨g, 0, none⟩) n c, .int .i64 a, .int .i64 b] w fun e w' => e = .returned (.tuple #[]) ∧ w'.ownsRow lo 3 1 (.slice (some ⟨g, 0, none⟩) n c) n (rowsV n1 (joinF L a b)) ∧ Kept (fun i => i = g) w w' := by
  have H := Lib.hid h
  have Hl := Lib.hid hl
  obtain ⟨mn, gmn⟩ : ∃ z, min a b = z := ⟨_, rfl⟩
  have HM := Lib.hid gmn
  clear h hl
  go_enter Tryz.func113, Tryz.ntmps113
  go_wp2
  go_loopw [10] (fun si wr => ∃ j : Nat, j ≤ n ∧ si = .int .i64 j ∧ RowKit.Hid (wr.ownsRow lo 3 1 (.slice (some ⟨g, 0, none⟩) n c) n (rowsV n1 (joinF (L.take j) a b ++ L.drop j))) ∧ RowKit.Hid (Kept (fun i => i = g) w wr)) (fun si _ => n - (intOf si).toNat)
  case atStart => exact ⟨0, by omega, rfl, Lib.hid (by simpa [joinF] using H.out), Lib.hid (Kept.refl _ _)⟩
  case round =>
    clear H
    obtain ⟨j, hj, rfl, HO, HK⟩ := hrel
    obtain ⟨wo, gwo⟩ : ∃ z, wr = z := ⟨_, rfl⟩
    rw [gwo] at HO HK ⊢
    clear gwo
    by_cases hjn : j < n
    · obtain ⟨x, hx⟩ : ∃ x, L[j]? = some x := ⟨_, List.getElem?_eq_getElem (by have := Hl.out; omega)⟩
      obtain ⟨g2, junk, e, hlo, hw, hc, hf, ho⟩ := own_poke (i := 0) (y := mn) (u := .int .i64 mn) n1_len HO.out (join_at (a := a) (b := b) hx) hjn (by omega) rfl
      obtain rfl : g = g2 := by
        injection e with e
        injection e
      have hc0 : wo.cell? ⟨g, j, none⟩ = some (.int .i64 x) := by have := hc.trans (show (n1 x)[0]? = some (.int .i64 x) from rfl); simpa using this
      have hf0 : wo.frozen? ⟨g, j, none⟩ = false := by simpa using hf
      have HN : RowKit.Hid ((x = a ∨ x = b) → (wo.setCell ⟨g, j, none⟩ (.int .i64 mn)).ownsRow lo 3 1 (.slice (some ⟨g, 0, none⟩) n c) n (rowsV n1 (joinF (L.take (j + 1)) a b ++ L.drop (j + 1)))) := Lib.hid (fun hor => by
        have h1 := ho
        rw [show (j * 1 + 0 : Nat) = j by omega] at h1
        have h2 := join_next (a := a) (b := b) hx
        rw [if_pos hor, HM.out] at h2
        rw [h2] at h1
        exact h1)
      have HS : RowKit.Hid (¬ (x = a ∨ x = b) → joinF (L.take j) a b ++ L.drop j = joinF (L.take (j + 1)) a b ++ L.drop (j + 1)) := Lib.hid (fun h => join_skip hx h)
      have HK2 : RowKit.Hid (Kept (fun i => i = g) w (wo.setCell ⟨g, j, none⟩ (.int .i64 mn))) := Lib.hid (HK.out.trans (kept_setCells (S := fun i => i = g) rfl j [.int .i64 mn]))
      clear hx e hlo hw hc hf ho
      by_cases ha : x = a
      · subst ha
        have HN1 := Lib.hid (HN.out (.inl rfl))
        have ha1 : ((x : Int) == x) = true := by simp
        clear HN HS HK HO
        go_wp2
        go_roundw
        case rel => exact ⟨j + 1, by omega, by go_num, HN1, HK2⟩
        case measure => simp [intOf]; omega
      · have ha1 : (x == a) = false := beq_eq_false_iff_ne.2 ha
        by_cases hb : x = b
        · subst hb
          have HN1 := Lib.hid (HN.out (.inr rfl))
          have hb1 : ((x : Int) == x) = true := by simp
          clear HN HS HK HO
          go_wp2
          go_roundw
          case rel => exact ⟨j + 1, by omega, by go_num, HN1, HK2⟩
          case measure => simp [intOf]; omega
        · have hb1 : (x == b) = false := beq_eq_false_iff_ne.2 hb
          have HO1 : RowKit.Hid (wo.ownsRow lo 3 1 (.slice (some ⟨g, 0, none⟩) n c) n (rowsV n1 (joinF (L.take (j + 1)) a b ++ L.drop (j + 1)))) := Lib.hid (by rw [← HS.out (by omega)]; exact HO.out)
          clear HN HS HO HK2
          go_wp2
          go_roundw
          case rel => exact ⟨j + 1, by omega, by go_num, HO1, HK⟩
          case measure => simp [intOf]; omega
    · obtain rfl : n = j := by omega
      go_wp2
      go_end0
      refine ⟨rfl, ?_, HK.out⟩
      have h1 := HO.out
      rw [List.take_of_length_le (by have := Hl.out; omega), List.drop_eq_nil_of_le (by have := Hl.out; omega), List.append_nil] at h1
      exact h1
end Go.Proofs.YtmkflebkifbpfaaGreat
/- As In2, where those behind wait for all of the first n by way of others. -/
namespace Go.Proofs.YtmkflebkifbpfaaGreat
open Go.RowKit
section
variable {P : Program} {ops : Array Oper} {Q : Exit → Act → World → Prop} {md : Region.Mode}
def depsAt (md : Region.Mode) (ops : Array Oper) (i : Nat) : List Nat := match ops[i]? with | some o => depsOf md o | none => []
def closeN (md : Region.Mode) (ops : Array Oper) : Nat → List Nat → List Nat
  | 0, l => l
  | m + 1, l => closeN md ops m (l ++ l.flatMap (depsAt md ops))
def tailC (md : Region.Mode) (ops : Array Oper) (n m : Nat) : Bool := (List.range ops.size).all fun k => decide (k < n) || (List.range n).all fun j => (closeN md ops m (depsAt md ops k)).contains j
theorem close_all {listed : Array Bool} (hcl : ∀ i, listed.getD i false = true → ∀ j ∈ depsAt md ops i, listed.getD j false = true) : ∀ (m : Nat) (l : List Nat), (∀ j ∈ l, listed.getD j false = true) → ∀ j ∈ closeN md ops m l, listed.getD j false = true
  | 0, _, h => h
  | m + 1, l, h => close_all hcl m _ (fun j hj => by
    rcases List.mem_append.1 hj with hj | hj
    · exact h j hj
    · obtain ⟨i, hi, hij⟩ := List.mem_flatMap.1 hj
      exact hcl i (h i hi) j hij)
theorem tailC_spec {n m k : Nat} (h : tailC md ops n m = true) (hk : n ≤ k) (hks : k < ops.size) : ∀ j, j < n → j ∈ closeN md ops m (depsAt md ops k) := by
  intro j hj
  have h1 := List.all_eq_true.1 h k (by simp [hks])
  have h2 : decide (k < n) = false := decide_eq_false (by omega)
  rw [h2, Bool.false_or] at h1
  have h3 := List.all_eq_true.1 h1 j (by simp [hj])
  simpa using h3
theorem wpAny_in4 (n m : Nat) (Γ : Nat → Value → World → Prop) (G : World → Prop) (a0 : Act) (hΓ : ∀ i v w w', Γ i v w → Ext w w' → Γ i v w') (hG : ∀ w w', G w → Ext w w' → G w')
    (hd : distinctB ops = true) (hr : risingB md ops = true) (hn : n ≤ ops.size) (ht : tailC md ops n m = true) (hstep : ∀ i, i < n → StepOk P md ops Γ G a0 i)
    (hend : ∀ x w, G w → (∀ i, i < n → Γ i (x i) w) → wpAny P md ops Q (ops.size - n) (upTo n ops.size) (putAll x (dsts ops) 0 a0) w) :
    ∀ (fuel : Nat) (listed : Array Bool) (x : Nat → Value) (w : World), listed.size = ops.size → (∀ i, listed.getD i false = true → ∀ j ∈ depsAt md ops i, listed.getD j false = true) → (∀ k, n ≤ k → k < ops.size → listed.getD k false = false) → (List.range ops.size).countP (fun j => listed.getD j false) + fuel = ops.size →
      G w → (∀ i, i < n → listed.getD i false = true → Γ i (x i) w) → wpAny P md ops Q fuel listed (putAll x (dsts ops) 0 a0) w := by
  have hfree : ∀ (listed : Array Bool), listed.size = ops.size → (¬ ∀ i, i < n → listed.getD i false = true) → ∃ i, i < n ∧ i ∈ Region.ready md ops listed := by
    intro listed hs hno
    by_cases hex : ∃ i, i < n ∧ i ∈ Region.ready md ops listed
    · exact hex
    · exfalso
      refine hno fun i => ?_
      induction i using Nat.strongRecOn with
      | _ i ih =>
        intro hi
        by_cases hl : listed.getD i false = true
        · exact hl
        · exfalso
          refine hex ⟨i, hi, ?_⟩
          rw [mem_ready]
          have his : i < ops.size := by omega
          have hil : i < listed.size := by omega
          have h1 : listed.getD i true = false := by
            simp [Array.getD, hil] at hl ⊢
            exact hl
          refine ⟨h1, ops[i], by simp [his], fun e he hb => ?_⟩
          have h2 := List.all_eq_true.1 (show (List.range ops.size).all _ = true from hr) i (by simp [his])
          simp [his] at h2
          have h3 := h2 e.on (by
            unfold depsOf
            exact List.mem_map.2 ⟨e, List.mem_filter.2 ⟨by simpa using he, hb⟩, rfl⟩)
          exact ih e.on h3 (by omega)
  intro fuel
  induction fuel with
  | zero =>
    intro listed x w hs hcl hk hc hg hx
    have hl : ∀ i, i < ops.size → listed.getD i false = true := fun i hi => by
      have h1 : (List.range ops.size).countP (fun j => listed.getD j false) = (List.range ops.size).length := by simpa using hc
      exact List.countP_eq_length.1 h1 i (by simp [hi])
    have hno : n = ops.size := by
      rcases Nat.lt_or_ge n ops.size with h | h
      · have h1 := hl n h
        rw [hk n (Nat.le_refl _) h] at h1
        cases h1
      · omega
    have he := hend x w hg fun i hi => hx i hi (hl i (by omega))
    rw [show ops.size - n = 0 by omega] at he
    have e1 : listed = upTo n ops.size := by
      apply Array.ext
      · rw [upTo_size, hs]
      · intro j h1 h2
        have h3 := hl j (by omega)
        have h4 := upTo_get n ops.size j (by omega)
        rw [decide_eq_true (by omega)] at h4
        simp [Array.getD, h1] at h3
        simp [Array.getD, h2] at h4
        rw [h3, h4]
    rw [e1]
    exact he
  | succ fuel ih =>
    intro listed x w hs hcl hk hc hg hx
    by_cases hall : ∀ i, i < n → listed.getD i false = true
    · have he := hend x w hg fun i hi => hx i hi (hall i hi)
      have e1 : listed = upTo n ops.size := by
        apply Array.ext
        · rw [upTo_size, hs]
        · intro j h1 h2
          have h4 := upTo_get n ops.size j (by omega)
          simp [Array.getD, h2] at h4
          by_cases hj : j < n
          · have h3 := hall j hj
            simp [Array.getD, h1] at h3
            rw [h3, h4, decide_eq_true hj]
          · have h3 := hk j (by omega) (by omega)
            simp [Array.getD, h1] at h3
            rw [h3, h4, decide_eq_false hj]
      have e2 : (List.range ops.size).countP (fun j => listed.getD j false) = n := by
        rw [e1]
        have : (List.range ops.size).countP (fun j => (upTo n ops.size).getD j false) = (List.range ops.size).countP (fun j => decide (j < n)) := by
          apply List.countP_congr
          intro j hj
          rw [upTo_get n ops.size j (by simpa using hj)]
        rw [this, countP_lt]
        omega
      rw [show ops.size - n = fuel + 1 by omega] at he
      rw [e1]
      exact he
    · obtain ⟨i0, hi0, hi0r⟩ := hfree listed hs hall
      refine ⟨fun h0 => (by rw [h0] at hi0r; cases hi0r), fun i hi => ?_⟩
      obtain ⟨h1, o, ho, hdep⟩ := mem_ready.1 hi
      have his : i < ops.size := (Array.getElem?_eq_some_iff.1 ho).1
      have hil : i < listed.size := by omega
      have hin : i < n := by
        rcases Nat.lt_or_ge i n with h | h
        · exact h
        · exfalso
          have hdl : ∀ j ∈ depsAt md ops i, listed.getD j false = true := fun j hj => by
            unfold depsAt at hj
            rw [ho] at hj
            unfold depsOf at hj
            obtain ⟨e, he, rfl⟩ := List.mem_map.1 hj
            obtain ⟨he1, he2⟩ := List.mem_filter.1 he
            exact hdep e (by simpa using he1) he2
          exact hall fun j hj => close_all hcl m _ hdl j (tailC_spec ht h his j hj)
      have hds : (dsts ops)[i]? = some o.dst := by
        unfold dsts
        rw [List.getElem?_map, Array.getElem?_toList, ho]
        rfl
      have hput : ∀ v, (putAll x (dsts ops) 0 a0).put o.dst v = putAll (upd x i v) (dsts ops) 0 a0 := fun v =>
        putAll_set x i v (dsts ops) 0 a0 o.dst (Nat.zero_le _) (by simpa using hds) (fun j e hj hne t ht he => by
          rw [Nat.sub_zero] at hne
          rw [ht] at hds
          rw [he] at hj
          exact hne (distinct_spec hd hj hds))
      have hnext : ∀ v w', Ext w w' → Γ i v w' → wpAny P md ops Q fuel (listed.setIfInBounds i true) (putAll (upd x i v) (dsts ops) 0 a0) w' := fun v w' hw hv => by
        refine ih _ _ _ (by simpa using hs) (fun i' hi' j hj => ?_) (fun k h1 h2 => ?_) ?_ (hG _ _ hg hw) fun j hj1 hj => ?_
        · have hj0 : listed.getD j false = true := by
            by_cases e : i' = i
            · subst e
              unfold depsAt at hj
              rw [ho] at hj
              unfold depsOf at hj
              obtain ⟨e, he, rfl⟩ := List.mem_map.1 hj
              obtain ⟨he1, he2⟩ := List.mem_filter.1 he
              exact hdep e (by simpa using he1) he2
            · rw [getD_set_ne false (Ne.symm e)] at hi'
              exact hcl i' hi' j hj
          by_cases e : j = i
          · subst e
            simp [Array.getD, hil]
          · rw [getD_set_ne false (Ne.symm e)]
            exact hj0
        · rw [getD_set_ne false (by omega)]
          exact hk k h1 h2
        · have hone := countP_one (fun j => listed.getD j false) (fun j => (listed.setIfInBounds i true).getD j false) i (by simp [Array.getD, hil] at h1 ⊢; exact h1) (by simp [Array.getD, hil]) (fun j hj => getD_set_ne false (Ne.symm hj)) ops.size
          rw [hone, if_pos his]
          omega
        · by_cases e : j = i
          · subst e
            simpa [upd] using hv
          · rw [getD_set_ne false (Ne.symm e)] at hj
            rw [show upd x i v j = x j from if_neg e]
            exact hΓ _ _ _ _ (hx j hj1 hj) hw
      have hok := hstep i hin o ho x w hg (fun j hj => by
        have hji : j < i := by
          have h2 := List.all_eq_true.1 (show (List.range ops.size).all _ = true from hr) i (by simp [his])
          rw [ho] at h2
          simpa using List.all_eq_true.1 h2 j hj
        unfold depsOf at hj
        obtain ⟨e, he, rfl⟩ := List.mem_map.1 hj
        obtain ⟨he1, he2⟩ := List.mem_filter.1 he
        exact hx _ (by omega) (hdep e (by simpa using he1) he2))
      unfold wpOp
      simp only [ho]
      rcases hok with ⟨hw, hout⟩ | ⟨hw, hu⟩
      · simp only [hw, if_true]
        exact .inl (hout.wp fun v w' hx1 hv => by rw [hput]; exact hnext v w' hx1 hv)
      · simp only [hw, Bool.false_eq_true, if_false]
        rw [hput]
        exact hnext undef w (Ext.refl w) hu
/-- The region: the first n by an invariant, the others walked. -/
theorem wp_region_in4 (n m : Nat) (S : Nat → Prop) {id : Nat} {a0 : Act} {w : World} (Γ : Nat → Value → World → Prop) (G : World → Prop) (hm : P.follows .mixedOrders = true)
    (hd : distinctB ops = true) (hr : risingB .any ops = true) (hn : decide (n ≤ ops.size) = true) (ht : tailC .any ops n m = true) (hΓ : ∀ i v w w', Γ i v w → Ext w w' → Γ i v w') (hG : ∀ w w', G w → Ext w w' → G w') (hg : G w.drew)
    (hstep : ∀ i, i < n → StepOk P .any ops Γ G a0 i)
    (hend : ∀ x w, G w → (∀ i, i < n → Γ i (x i) w) → wpR P .any ops S Q (ops.size - n) (upTo n ops.size) (putAll x (dsts ops) 0 a0) w) : (Code.region id ops true).wp P Q a0 w := by
  obtain ⟨x, hx⟩ := putAll_self (dsts ops) 0 a0
  have hz : ∀ k, (Array.replicate ops.size false).getD k false = false := fun k => by
    by_cases h : k < ops.size <;> simp [Array.getD, h]
  have h := wpAny_in4 (P := P) (Q := Q) (md := .any) n m Γ G a0 hΓ hG hd hr (of_decide_eq_true hn) ht hstep (fun x w h1 h2 => wpAny_of_R _ _ _ _ (hend x w h1 h2)) ops.size (Array.replicate ops.size false) x w.drew (by simp) (fun i hi => by rw [hz i] at hi; cases hi) (fun k _ _ => hz k) (by
    have : (List.range ops.size).countP (fun j => (Array.replicate ops.size false).getD j false) = 0 := by
      rw [List.countP_eq_zero]
      intro j hj
      rw [hz j]
      simp
    omega) hg (fun i _ hi => by rw [hz i] at hi; cases hi)
  rw [hx] at h
  exact wp_region_any hm h
end
end Go.Proofs.YtmkflebkifbpfaaGreat
