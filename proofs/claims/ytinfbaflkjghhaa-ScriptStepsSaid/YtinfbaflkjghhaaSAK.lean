/- 'ScriptSteps' answers true for every row of steps and every row of bytes.
   No condition beyond the row's own. -/
import Derived.Test.YtinfbaflkjghhaaSAJ
import Derived.Deep.CutBlock
import Derived.Test.YtinfbaflkjghhaaSAA
import Derived.Test.YtinfbaflkjghhaaSAE
import Derived.Test.YtinfbaflkjghhaaRows
/- ScriptSteps. -/
set_option linter.unusedSimpArgs false
set_option linter.unusedVariables false
namespace Go.Proofs.Ytinfbaflkjghhaa
open Go.RowKit
theorem whV_txt {B : List Nat} (hb : ∀ b ∈ B, b < 256) : ∀ o ∈ whV B, o.t.size ≤ 255 := fun o ho => by
  unfold whV at ho
  split at ho
  · exact edV_t _ (drop_lt hb 1) o ho
  · cases ho
theorem tkS_ops {B : List Nat} (hb : ∀ b ∈ B, b < 256) : (tkS B).2.length ≤ 255 ∧ ∀ o ∈ (tkS B).2, o.t.size ≤ maxLen := by
  unfold tkS
  split
  · exact ⟨whV_len (drop_lt hb 32), fun o ho => by have := whV_txt (drop_lt hb 32) o ho; unfold maxLen; omega⟩
  · exact ⟨by simp [zS], fun o ho => (by cases ho)⟩
theorem gives_s {w w' : World} {k1 k2 k3 k4 y : Int} {V : List OpT} {e : Ending} (h : GivesS w ((k1, k2, k3, k4), V) y e w') : ∃ A n c, e = .returned (.tuple #[.agg #[.int .i64 k1, .int .i64 k2, .int .i64 k3, .int .i64 k4, .slice A n c], .int .i64 y]) ∧ n = V.length ∧ w'.ownsRow w.heap.size 53 20 (.slice A n c) n (rowsV opCells V) ∧ Below w.heap.size w w' := by
  obtain ⟨A, n, c, h1, h2⟩ := h
  exact ⟨A, n, c, h1, h2⟩
/-- One step in a block of its own. -/
theorem one_rd {W : World} {g : Nat} {k1 k2 k3 k4 : Int} {A : Option Addr} {n c : Nat} {V : List OpT} (h : Whole W g 30 [.int .i64 k1, .int .i64 k2, .int .i64 k3, .int .i64 k4, .slice A n c]) (ho : RdS W W.heap.size 20 A n c (rowsV opCells V)) (hn : n ≤ 1000000) (ht : ∀ o ∈ V, o.t.size ≤ maxLen) (hi : In4 (k1, k2, k3, k4)) : StRd W (some ⟨g, 0, none⟩) 1 1 [((k1, k2, k3, k4), (A, n, c, V))] :=
  ⟨by rw [rowsS1]; exact RdS.of_whole8 h rfl, fun s hs => by
    obtain rfl := List.mem_singleton.1 hs
    exact ⟨ho, hn, ht, hi⟩⟩
set_option maxRecDepth 100000 in
set_option maxHeartbeats 4000000 in
theorem law_steps (A : Option Addr) (n c : Nat) (Ls : List StT) (Ab : Option Addr) (nb cb : Nat) (Bs : List Nat) (w : World) (h : RdS w w.heap.size 5 A n c (rowsV stC Ls)) (he : ∀ s ∈ Ls, RdS w w.heap.size 20 s.2.1 s.2.2.1 s.2.2.2.1 (rowsV opCells s.2.2.2.2)) (hi : ∀ s ∈ Ls, In4 s.1) (hn : n ≤ maxLen) (hb : RdS w w.heap.size 1 Ab nb cb (rowsV f8 Bs)) (hbl : ∀ b ∈ Bs, b < 256) :
    Calls Try.prog 3 #[.slice A n c, .slice Ab nb cb] w fun e w' => e = .returned (.bool true) ∧ Below w.heap.size w w' := by
  have H := Lib.hid h
  have HEa := Lib.hid he
  have Hi := Lib.hid hi
  have HBs := Lib.hid hb
  have Hbl := Lib.hid hbl
  clear h he hi hb hbl
  go_enter Try.func3, Try.ntmps3
  go_wp2_with fail
  refine (shown23_any w).mono ?_
  rintro e w1 ⟨rfl, hb1⟩
  have HB1 := Lib.hid hb1
  clear hb1
  go_wp2_with fail
  refine (few23_any A n c Ls w1 (H.out.bl HB1.out) (fun s hs => (HEa.out s hs).bl HB1.out) hn).mono ?_
  rintro e w2 ⟨A2, c2, Ts, N, rfl, hN, hTm, hSt, hf8, hb2⟩
  have hIn : ∀ s ∈ Ls.map sdT, In4 s.1 := fun s hs => by
    obtain ⟨x, hx, rfl⟩ := List.mem_map.1 hs
    exact Hi.out x hx
  have HTs := Lib.hid (few_rd hSt hf8 hTm hIn)
  have HR2 := Lib.hid ((HBs.out.bl HB1.out).bl hb2)
  have HB2 := Lib.hid (bel_bl HB1.out hb2)
  clear hb2 hIn hTm hSt hf8 H HEa Hi HBs HB1
  go_upto_if 25 with fail
  go_cut [1] (fun v z => ∃ (m c' : Nat), m ≤ 600 ∧ v = .slice Ab m c' ∧ z = w2 ∧ RdS w2 w2.heap.size 1 Ab m c' (rowsV f8 (Bs.take 600)))
  case first =>
    by_cases hgt : 600 < nb
    · have hg1 : (600 : Int) < (nb : Int) := by omega
      have hcap : 600 ≤ cb := by have := HR2.out.le; omega
      have hr := HR2.out.take_ 600 (by omega)
      have HR : RowKit.Hid (RdS w2 w2.heap.size 1 Ab 600 cb (rowsV f8 (Bs.take 600))) := Lib.hid (by rw [rowsV_take f8 f8_len]; exact hr)
      clear hr
      go_wp2
      go_meet
      exact ⟨600, cb, Nat.le_refl _, rfl, rfl, HR.out⟩
    · have hg1 : ¬ (600 : Int) < (nb : Int) := by omega
      have hr := HR2.out
      have hl := hr.rlen f8_len (by decide)
      have HR : RowKit.Hid (RdS w2 w2.heap.size 1 Ab nb cb (rowsV f8 (Bs.take 600))) := Lib.hid (by rw [List.take_of_length_le (by omega)]; exact hr)
      clear hr hl
      go_wp2
      go_meet
      exact ⟨nb, cb, by omega, rfl, rfl, HR.out⟩
  case rest =>
    obtain ⟨m, cm, hm6, rfl, rfl, hr⟩ := hcut
    have HLb : RowKit.Hid (∀ b ∈ Bs.take 600, b < 256) := Lib.hid (fun b hb => Hbl.out b (List.mem_of_mem_take hb))
    obtain ⟨L, gL⟩ : ∃ z, Bs.take 600 = z := ⟨_, rfl⟩
    rw [gL] at hr HLb
    have HR := Lib.hid hr
    have HLl := Lib.hid (hr.rlen f8_len (by decide))
    have HT := Lib.hid (fun Ax cx W (hx : RdS W W.heap.size 1 Ax m cx (rowsV f8 L)) => take23_any Ax m cx L W HLl.out hx (by omega) HLb.out)
    have HT' := Lib.hid (fun Ax cx W (hx : RdS W W.heap.size 1 Ax m cx (rowsV f8 L)) => rtake23_any Ax m cx L W HLl.out hx (by omega) HLb.out)
    have htk := tkS_ops HLb.out
    have hti := tkS_in L
    obtain ⟨⟨⟨k1, k2, k3, k4⟩, V⟩, gx⟩ : ∃ z, tkS L = z := ⟨_, rfl⟩
    obtain ⟨y, gy⟩ : ∃ z, tkSE L = z := ⟨_, rfl⟩
    rw [gx, gy] at HT HT'
    rw [gx] at htk hti
    have HV := Lib.hid htk
    have HI4 := Lib.hid hti
    clear hr gL gx gy htk hti HR2
    obtain ⟨wo, gwo⟩ : ∃ z, wc = z := ⟨_, rfl⟩
    rw [gwo] at HR HTs HB2 ⊢
    clear gwo
    have hO4 : Ow wo wo.heap.size 5 1 (.slice (some ⟨wo.heap.size, 0, none⟩) 0 0) 0 (rowsV f8 []) (wo.alloc (.cells #[] 5)) := Ow.new_ (cs := #[]) (Below.refl _ _) (Nat.le_refl _) (Nat.le_refl _) (Nat.zero_le _) rfl
    obtain ⟨Ac4, cc4, wc4, hrun4, ho4, -⟩ := app8 23 hO4 (HR.out.al (.cells #[] 5)) (by omega)
    rw [Nat.zero_add, List.nil_append] at ho4
    rw [Nat.zero_add] at hrun4
    have hbc := ho4.below
    have HR3 := Lib.hid (HR.out.bl hbc)
    have HB3 := Lib.hid (bel_bl HB2.out hbc)
    have HTs3 := Lib.hid (HTs.out.bl hbc)
    have HOc := Lib.hid (own_rds ho4.own)
    clear hO4 ho4 hbc HR HB2 HTs
    go_upto_region 6 with (first
      | (at_builtin
         refine wl_run (some 31) rfl (by rfl) (exec_append (by rfl) (by rfl) (by rfl) hrun4) ?_
         clear hrun4)
      | (go_at_call 10
         refine (HT.out Ac4 cc4 wc4 HOc.out).mono ?_
         intro e w5 hg5
         obtain ⟨A5, n5, c5, rfl, hn5, ho5, hb5⟩ := gives_s hg5
         have Hn5 := Lib.hid hn5
         have HR5 := Lib.hid ((HR3.out.bl hb5).al (.cells #[.int .i64 k1, .int .i64 k2, .int .i64 k3, .int .i64 k4, .slice A5 n5 c5] 30))
         have HTs5 := Lib.hid ((HTs3.out.bl hb5).bl (below1 w5 (.cells #[.int .i64 k1, .int .i64 k2, .int .i64 k3, .int .i64 k4, .slice A5 n5 c5] 30)))
         have HB5 := Lib.hid (bel_al (bel_bl HB3.out hb5) (.cells #[.int .i64 k1, .int .i64 k2, .int .i64 k3, .int .i64 k4, .slice A5 n5 c5] 30))
         have HO5 := Lib.hid ((own_rds ho5).al (.cells #[.int .i64 k1, .int .i64 k2, .int .i64 k3, .int .i64 k4, .slice A5 n5 c5] 30))
         have HX5 : RowKit.Hid (Whole (w5.alloc (.cells #[.int .i64 k1, .int .i64 k2, .int .i64 k3, .int .i64 k4, .slice A5 n5 c5] 30)) w5.heap.size 30 [.int .i64 k1, .int .i64 k2, .int .i64 k3, .int .i64 k4, .slice A5 n5 c5]) := Lib.hid (Whole.new_ _ _ [_, _, _, _, _])
         clear hg5 hn5 ho5 hb5))
    clear HR3 HB3 HTs3 HOc
    obtain ⟨w6, gw6⟩ : ∃ z, w5.alloc (.cells #[.int .i64 k1, .int .i64 k2, .int .i64 k3, .int .i64 k4, .slice A5 n5 c5] 30) = z := ⟨_, rfl⟩
    obtain ⟨b6, gb6⟩ : ∃ z, w5.heap.size = z := ⟨_, rfl⟩
    rw [gw6] at HR5 HTs5 HB5 HO5 HX5 ⊢
    rw [gb6] at HX5 ⊢
    clear gw6 gb6
    go_wp2_with fail
    refine (HT'.out Ab cm w6 HR5.out).mono ?_
    intro e w7 hg7
    obtain ⟨A7, n7, c7, rfl, hn7, ho7, hb7⟩ := gives_s hg7
    have Hn7 := Lib.hid hn7
    have hX7 := (HX5.out.bl hb7).al (.cells #[.int .i64 k1, .int .i64 k2, .int .i64 k3, .int .i64 k4, .slice A7 n7 c7] 30)
    have hTs7 := (HTs5.out.bl hb7).bl (below1 w7 (.cells #[.int .i64 k1, .int .i64 k2, .int .i64 k3, .int .i64 k4, .slice A7 n7 c7] 30))
    have hB7 := bel_al (bel_bl HB5.out hb7) (.cells #[.int .i64 k1, .int .i64 k2, .int .i64 k3, .int .i64 k4, .slice A7 n7 c7] 30)
    have hO7 := (HO5.out.bl hb7).al (.cells #[.int .i64 k1, .int .i64 k2, .int .i64 k3, .int .i64 k4, .slice A7 n7 c7] 30)
    have hP7 := (own_rds ho7).al (.cells #[.int .i64 k1, .int .i64 k2, .int .i64 k3, .int .i64 k4, .slice A7 n7 c7] 30)
    have hY7 : Whole (w7.alloc (.cells #[.int .i64 k1, .int .i64 k2, .int .i64 k3, .int .i64 k4, .slice A7 n7 c7] 30)) w7.heap.size 30 [.int .i64 k1, .int .i64 k2, .int .i64 k3, .int .i64 k4, .slice A7 n7 c7] := Whole.new_ _ _ [_, _, _, _, _]
    clear hg7 hn7 ho7 hb7
    go_upto_region 7 with fail
    obtain ⟨w8, gw8⟩ : ∃ z, w7.alloc (.cells #[.int .i64 k1, .int .i64 k2, .int .i64 k3, .int .i64 k4, .slice A7 n7 c7] 30) = z := ⟨_, rfl⟩
    obtain ⟨b8, gb8⟩ : ∃ z, w7.heap.size = z := ⟨_, rfl⟩
    rw [gw8] at hX7 hTs7 hB7 hO7 hP7 hY7 ⊢
    rw [gb8] at hY7 ⊢
    have x0 := hX7.cell (i := 0) rfl
    have x1 := hX7.cell (i := 1) rfl
    have x2 := hX7.cell (i := 2) rfl
    have x3 := hX7.cell (i := 3) rfl
    have x4 := hX7.cell (i := 4) rfl
    have HY7 := Lib.hid (hY7.al (.cells #[.int .i64 k1, .int .i64 k2, .int .i64 k3, .int .i64 k4, .slice A5 n5 c5] 30))
    have y0 := HY7.out.cell (i := 0) rfl
    have y1 := HY7.out.cell (i := 1) rfl
    have y2 := HY7.out.cell (i := 2) rfl
    have y3 := HY7.out.cell (i := 3) rfl
    have y4 := HY7.out.cell (i := 4) rfl
    have hZ1 : Whole ((w8.alloc (.cells #[.int .i64 k1, .int .i64 k2, .int .i64 k3, .int .i64 k4, .slice A5 n5 c5] 30)).alloc (.cells #[.int .i64 k1, .int .i64 k2, .int .i64 k3, .int .i64 k4, .slice A7 n7 c7] 30)) w8.heap.size 30 [.int .i64 k1, .int .i64 k2, .int .i64 k3, .int .i64 k4, .slice A5 n5 c5] := (Whole.new_ w8 30 [_, _, _, _, _]).alloc _
    have hZ2 : Whole ((w8.alloc (.cells #[.int .i64 k1, .int .i64 k2, .int .i64 k3, .int .i64 k4, .slice A5 n5 c5] 30)).alloc (.cells #[.int .i64 k1, .int .i64 k2, .int .i64 k3, .int .i64 k4, .slice A7 n7 c7] 30)) (w8.heap.size + 1) 30 [.int .i64 k1, .int .i64 k2, .int .i64 k3, .int .i64 k4, .slice A7 n7 c7] := Whole.new2 (w := w8.alloc (.cells #[.int .i64 k1, .int .i64 k2, .int .i64 k3, .int .i64 k4, .slice A5 n5 c5] 30)) (cs := [_, _, _, _, _]) (by simp)
    have HS1 := Lib.hid (one_rd hZ1 ((hO7.al _).al _) (by rw [Hn5.out]; have := HV.out.1; show V.length ≤ 1000000; have h9 : V.length ≤ 255 := this; omega) HV.out.2 HI4.out)
    have HS2 := Lib.hid (one_rd hZ2 ((hP7.al _).al _) (by rw [Hn7.out]; have := HV.out.1; show V.length ≤ 1000000; have h9 : V.length ≤ 255 := this; omega) HV.out.2 HI4.out)
    have HTs8 := Lib.hid ((hTs7.bl (below1 w8 (.cells #[.int .i64 k1, .int .i64 k2, .int .i64 k3, .int .i64 k4, .slice A5 n5 c5] 30))).bl (below1 _ (.cells #[.int .i64 k1, .int .i64 k2, .int .i64 k3, .int .i64 k4, .slice A7 n7 c7] 30)))
    have HB8 := Lib.hid (bel_al (bel_al hB7 (.cells #[.int .i64 k1, .int .i64 k2, .int .i64 k3, .int .i64 k4, .slice A5 n5 c5] 30)) (.cells #[.int .i64 k1, .int .i64 k2, .int .i64 k3, .int .i64 k4, .slice A7 n7 c7] 30))
    clear gw8 gb8 hX7 hTs7 hB7 hO7 hP7 hY7 hZ1 hZ2 HR5 HTs5 HB5 HO5 HX5 HY7
    go_wp2_with fail
    clear x0 x1 x2 x3 x4 y0 y1 y2 y3 y4
    refine (rsame23_any _ 1 1 _ _ 1 1 _ _ HS1.out HS2.out (by decide)).mono ?_
    rintro e w9 ⟨rfl, hb9⟩
    rw [show decide (List.map sdT [((k1, k2, k3, k4), (A5, n5, c5, V))] = List.map sdT [((k1, k2, k3, k4), (A7, n7, c7, V))]) = true from decide_eq_true rfl]
    have HTs9 := Lib.hid (HTs8.out.bl hb9)
    have HB9 := Lib.hid (bel_bl HB8.out hb9)
    have HTl := Lib.hid (HTs9.out.row.rlen stC_len (by decide))
    clear hb9 HS1 HS2 HTs8 HB8 HT HT'
    go_upto_region 9 with fail
    obtain ⟨wz, gwz⟩ : ∃ z, w9 = z := ⟨_, rfl⟩
    rw [gwz] at HTs9 HB9 ⊢
    clear gwz
    go_loopw [11] (fun i wr => ∃ k : Nat, k ≤ N ∧ i = .int .i64 (k : Int) ∧ RowKit.Hid (StRd wr A2 N c2 Ts) ∧ RowKit.Hid (Below w.heap.size w wr)) (fun i _ => N - (intOf i).toNat)
    case atStart => exact ⟨0, Nat.zero_le _, rfl, HTs9, HB9⟩
    case round =>
      clear HTs9 HB9
      obtain ⟨k, hk, rfl, HTs, HB⟩ := hrel
      obtain ⟨wo, gwo⟩ : ∃ z, wr = z := ⟨_, rfl⟩
      rw [gwo] at HTs HB ⊢
      clear gwo
      by_cases hlt : k < N
      · have hltI : (k : Int) < (N : Int) := by omega
        obtain ⟨x, hx⟩ : ∃ x, Ts[k]? = some x := ⟨_, List.getElem?_eq_getElem (by have := HTl.out; omega)⟩
        have HOx := Lib.hid (HTs.out.each x (List.mem_of_getElem? hx))
        obtain ⟨bb, off, hA2, hbB, -⟩ := HTs.out.row.place stC_len (by decide) (by omega)
        subst hA2
        have HPl := Lib.hid (fun (W : World) (hW : RdS W W.heap.size 5 (some ⟨bb, off, none⟩) N c2 (rowsV stC Ts)) => RdS.elem stC_len hW hx)
        obtain ⟨⟨k1', k2', k3', k4'⟩, Ax, nx, cx, Lx⟩ := x
        have HPu := Lib.hid (fun W (h : StOk W ((k1', k2', k3', k4'), (Ax, nx, cx, Lx))) => put23_any ((k1', k2', k3', k4'), (Ax, nx, cx, Lx)) W h.ops h.few)
        have HPr := Lib.hid (fun W (h : StOk W ((k1', k2', k3', k4'), (Ax, nx, cx, Lx))) => rput23_any ((k1', k2', k3', k4'), (Ax, nx, cx, Lx)) W h.ops h.few h.txt)
        obtain ⟨sx, gsx⟩ : ∃ z, sdT ((k1', k2', k3', k4'), Ax, nx, cx, Lx) = z := ⟨_, rfl⟩
        rw [gsx] at HPu HPr
        have hp := HPl.out wo HTs.out.row
        have l0 := hp 0 _ rfl
        have l1 := hp 1 _ rfl
        have l2 := hp 2 _ rfl
        have l3 := hp 3 _ rfl
        have l4 := hp 4 _ rfl
        simp only [Addr.add_lit, Nat.add_zero] at l0 l1 l2 l3 l4
        clear hx hbB gsx hp
        go_wp2_with fail
        refine (HPu.out wo HOx.out).mono ?_
        rintro e w3 ⟨A3, c3, rfl, ho3, hb3⟩
        have HTs3 := Lib.hid (HTs.out.bl hb3)
        have HOx3 := Lib.hid (HOx.out.bl hb3)
        have HB3 := Lib.hid (bel_bl HB.out hb3)
        have HR3 := Lib.hid (own_rds ho3)
        have hp := HPl.out w3 HTs3.out.row
        clear l0 l1 l2 l3 l4
        have l0 := hp 0 _ rfl
        have l1 := hp 1 _ rfl
        have l2 := hp 2 _ rfl
        have l3 := hp 3 _ rfl
        have l4 := hp 4 _ rfl
        simp only [Addr.add_lit, Nat.add_zero] at l0 l1 l2 l3 l4
        clear ho3 hb3 HTs HB HOx hp HPu HPl
        go_wp2_with fail
        refine (HPr.out w3 HOx3.out).mono ?_
        rintro e w4 ⟨A4, c4, rfl, ho4, hb4⟩
        have HTs4 := Lib.hid (HTs3.out.bl hb4)
        have HB4 := Lib.hid (bel_bl HB3.out hb4)
        have hcv1 := conv_txt (HR3.out.bl hb4)
        have hcv2 := conv_txt (own_rds ho4)
        obtain ⟨t, gt⟩ : ∃ z, txt (sdP sx) = z := ⟨_, rfl⟩
        obtain ⟨e9, ge9⟩ : ∃ z, sdE sx = z := ⟨_, rfl⟩
        obtain ⟨l9, gl9⟩ : ∃ z, (sdP sx).length = z := ⟨_, rfl⟩
        rw [gl9, gt] at hcv1 hcv2
        rw [gl9, ge9]
        clear ho4 hb4 HTs3 HB3 HOx3 HR3 l0 l1 l2 l3 l4 HPr gt ge9 gl9
        go_wp2
        go_roundw
        case rel => exact ⟨k + 1, by omega, by go_num, HTs4, HB4⟩
        case measure => simp [intOf]; omega
      · obtain rfl : N = k := by omega
        have hni : ¬ (N : Int) < (N : Int) := by omega
        have hN48 : N ≤ 2048 := by omega
        go_wp2_with fail
        refine (print_any A2 N c2 Ts wo HTs.out hN48).mono ?_
        rintro e w3 ⟨rfl, hb3⟩
        have HTs3 := Lib.hid (HTs.out.bl hb3)
        have HB3 := Lib.hid (bel_bl HB.out hb3)
        clear hb3 HTs HB
        have hrp := rprint_any A2 N c2 Ts w3 HTs3.out hN48
        obtain ⟨P, gP⟩ : ∃ z, Ts.map sdT = z := ⟨_, rfl⟩
        rw [gP] at hrp ⊢
        unfold GivesPr at hrp
        obtain ⟨t, gt⟩ : ∃ z, txt (prS P) = z := ⟨_, rfl⟩
        obtain ⟨e9, ge9⟩ : ∃ z, prE P = z := ⟨_, rfl⟩
        rw [gt, ge9] at hrp ⊢
        have HRp := Lib.hid hrp
        clear gP gt ge9 hrp HTs3
        go_wp2_with fail
        refine (HRp.out).mono ?_
        rintro e w4 ⟨rfl, hb4⟩
        have HB4 := Lib.hid (bel_bl HB3.out hb4)
        clear hb4 HB3 HRp
        go_wp2
        go_ret
        exact ⟨rfl, HB4.out⟩
end Go.Proofs.Ytinfbaflkjghhaa
/- Out of XOp13, XOpTy -/
namespace Go.Proofs.Ytinfbaflkjghhaa
open Go.RowKit
def idCells (p : Int × Int) : List Value := [.int .i64 p.1, .int .i64 p.2]
theorem row1_id (H : Type) : Row1 H Try.prog 47 idCells (fun _ _ => True) :=
  (row1_struct Try.underlying47 (by kernel_rfl) (fields_cons (k := 1) (row1_int Try.underlying3) rfl (by kernel_rfl) (fields_cons (k := 1) (row1_int Try.underlying3) rfl (by kernel_rfl) (fields_nil _)))).map
    (fun a => (a.1, a.2.1)) (fun _ => rfl) (fun _ _ _ => trivial)
def dCells (d : Int × Int × Int) : List Value := [.int .i64 d.1, .int .i64 d.2.1, .int .i64 d.2.2]
theorem row1_dart (H : Type) : Row1 H Try.prog 49 dCells (fun _ _ => True) :=
  (row1_struct Try.underlying49 (by kernel_rfl) (fields_cons (k := 2) (row1_id H) rfl (by kernel_rfl) (fields_cons (k := 1) (row1_int Try.underlying3) rfl (by kernel_rfl) (fields_nil _)))).map
    (fun a => (a.1.1, a.1.2, a.2.1)) (fun _ => rfl) (fun _ _ _ => trivial)
def cnCells (d : Int × Int × Int × Int × Int) : List Value := [.int .i64 d.1, .int .i64 d.2.1, .int .i64 d.2.2.1, .int .i64 d.2.2.2.1, .int .i64 d.2.2.2.2]
theorem row1_corner (H : Type) : Row1 H Try.prog 51 cnCells (fun _ _ => True) :=
  (row1_struct Try.underlying51 (by kernel_rfl) (fields_cons (k := 2) (row1_id H) rfl (by kernel_rfl) (fields_cons (k := 3) (row1_dart H) rfl (by kernel_rfl) (fields_nil _)))).map
    (fun a => (a.1.1, a.1.2, a.2.1.1, a.2.1.2.1, a.2.1.2.2)) (fun _ => rfl) (fun _ _ _ => trivial)
theorem row1_op (H : Type) : Row1 H Try.prog 53 opCells (fun _ o => o.t.size ≤ maxLen) :=
  (row1_struct Try.underlying53 (by kernel_rfl) (fields_cons (k := 1) (row1_int Try.underlying3) rfl (by kernel_rfl) (fields_cons (k := 2) (row1_id H) rfl (by kernel_rfl) (fields_cons (k := 2) (row1_id H) rfl (by kernel_rfl) (fields_cons (k := 2) (row1_id H) rfl (by kernel_rfl)
    (fields_cons (k := 5) (row1_corner H) rfl (by kernel_rfl) (fields_cons (k := 5) (row1_corner H) rfl (by kernel_rfl) (fields_cons (k := 1) (row1_bool Try.underlying4) rfl (by kernel_rfl) (fields_cons (k := 1) (row1_string Try.underlying9) rfl (by kernel_rfl)
    (fields_cons (k := 1) (row1_int Try.underlying3) rfl (by kernel_rfl) (fields_nil _))))))))))).map
    (fun a => ⟨a.1, a.2.1.1, a.2.1.2, a.2.2.1.1, a.2.2.1.2, a.2.2.2.1.1, a.2.2.2.1.2, a.2.2.2.2.1.1, a.2.2.2.2.1.2.1, a.2.2.2.2.1.2.2.1, a.2.2.2.2.1.2.2.2.1, a.2.2.2.2.1.2.2.2.2,
      a.2.2.2.2.2.1.1, a.2.2.2.2.2.1.2.1, a.2.2.2.2.2.1.2.2.1, a.2.2.2.2.2.1.2.2.2.1, a.2.2.2.2.2.1.2.2.2.2, a.2.2.2.2.2.2.1, a.2.2.2.2.2.2.2.1, a.2.2.2.2.2.2.2.2.1⟩) (fun _ => rfl) (fun _ _ h => h.2.2.2.2.2.2.2.1)
theorem row1_edit (H : Type) : Row1 H Try.prog 28 (slCells (α := OpT)) (SlOk 20 opCells (fun _ o => o.t.size ≤ maxLen)) :=
  (row1_struct Try.underlying28 (by kernel_rfl) (fields_cons (k := 1) (row1_slice (row1_op H) Try.underlying26 (by kernel_rfl) opCells_len' (by decide)) rfl (by kernel_rfl) (fields_nil _))).map
    (fun a => a.1) (fun _ => by simp) (fun _ _ h => h.1)
end Go.Proofs.Ytinfbaflkjghhaa
/- The laws' types of layer 8: bytes. -/
namespace Go.Proofs.Ytinfbaflkjghhaa
open Go.ChangeShapes Go.WideShapes Go.ChangeAt Go.RowKit
theorem row1_byte (H : Type) : Row1 H Try.prog 5 f8 (fun _ b => b < 256) := by
  intro enc w held fuel cs x h
  obtain ⟨n, rfl, _, hw⟩ := DataW.trod_int Try.underlying5 h
  have hb := bounds_u8 hw
  refine ⟨n.toNat, ?_, by omega⟩
  have e : ((n.toNat : Nat) : Int) = n := by omega
  simp [f8, e]
end Go.Proofs.Ytinfbaflkjghhaa
/- Types of layer 23 as data. -/
namespace Go.Proofs.Ytinfbaflkjghhaa
open Go.ChangeShapes Go.WideShapes Go.ChangeAt Go.RowKit
def StpOk (W : World) (s : StT) : Prop := In4 s.1 ∧ SlOk 20 opCells (fun _ o => o.t.size ≤ maxLen) W s.2
theorem row1_step (H : Type) : Row1 H Try.prog 30 stC StpOk :=
  (row1_struct Try.underlying30 (by kernel_rfl) (fields_cons (k := 1) (row1_int Try.underlying3) rfl (by kernel_rfl) (fields_cons (k := 1) (row1_int Try.underlying3) rfl (by kernel_rfl) (fields_cons (k := 1) (row1_int Try.underlying3) rfl (by kernel_rfl) (fields_cons (k := 1) (row1_int Try.underlying3) rfl (by kernel_rfl) (fields_cons (k := 1) (row1_edit H) rfl (by kernel_rfl) (fields_nil _))))))).map
    (fun a => ((a.1, a.2.1, a.2.2.1, a.2.2.2.1), a.2.2.2.2.1)) (fun _ => rfl) (fun _ _ h => ⟨⟨h.1, h.2.1, h.2.2.1, h.2.2.2.1⟩, h.2.2.2.2.1⟩)
end Go.Proofs.Ytinfbaflkjghhaa
/- 'ScriptSteps' answers true for every row of steps and every row of bytes.
   No condition beyond the row's own. -/
namespace Go.Proofs.Ytinfbaflkjghhaa
open Go.ChangeShapes Go.WideShapes Go.ChangeAt Go.RowKit
namespace lawScriptSteps
set_option maxRecDepth 100000 in
theorem contract (H : Type) (enc : TypeId × Value → H) (W : World) (base : Nat) (args : Array Value) (ds gs : List (DataW H)) (before : List MemPlace)
    (hval : ∀ (j : Nat) t v, Try.f3.params[j]? = some t → args[j]? = some v → Value.okWide Try.prog W .any base t v)
    (hW : DataW.Whole enc Try.prog Try.f3.params.toList Rows.scriptStepsSpec.vars false W args.toList ds gs before) :
    Calls Try.prog 3 args W fun e W' => ∃ v, e = .returned v ∧ Rows.scriptStepsSpec.post enc Try.prog Try.f3 false true false false W args v W' := by
  have hW' := hW
  obtain ⟨p, q, hA, hV, rfl, hfz, hnd⟩ := hW
  obtain ⟨rfl, rfl⟩ := trodVars_none hV
  rw [Try.params3] at hA hval
  obtain ⟨v0, v1, d0, d1, p0, p1, rfl, rfl, rfl, h0, h1⟩ := trodAll_two hA
  obtain ⟨l, rfl, hx0⟩ := open_row1_slice (row1_step H) Try.underlying22 (by kernel_rfl) stC_len (by decide) (hval 0 22 v0 rfl rfl) h0
  obtain ⟨b, rfl, hx1⟩ := open_row1_slice (row1_byte H) Try.underlying23 (by kernel_rfl) f8_len (by decide) (hval 1 23 v1 rfl rfl) h1
  refine (law_steps l.1 l.2.1 l.2.2.1 l.2.2.2 b.1 b.2.1 b.2.2.1 b.2.2.2 W hx0.2.1 (fun s hs => (hx0.2.2 s hs).2.2.1) (fun s hs => (hx0.2.2 s hs).1) (Nat.le_trans hx0.2.1.le hx0.1) hx1.2.1 hx1.2.2).mono fun e W' ⟨he, hb⟩ => ⟨_, he, ?_⟩
  exact law_post Try.laidOut (by kernel_rfl) (tb := 4) (by kernel_rfl) Try.underlying4 rfl ⟨rfl, rfl, rfl⟩ hW' hb
set_option maxRecDepth 100000 in
theorem lifted (os : Os) (started : os.Started) (H : Type) (enc : TypeId × Value → H) :
    ReturnsInHanded {} Try.checked os 3 .any (Rows.scriptStepsSpec.pre6 enc Try.prog Try.f3 Rows.scriptStepsRow.domain false) (Rows.scriptStepsSpec.post enc Try.prog Try.f3 false true false false) := by
  refine returnsInHanded_of_change (C := Try.checked) Try.own started (by kernel_rfl) Try.func3
    (ChangeSpec.witness6 (enc := enc) (C := Try.checked) false ⟨#[], #[.slice none 0 0, .slice none 0 0], []⟩ 8 (by kernel_rfl) (by kernel_rfl) (by kernel_rfl) (by kernel_rfl)) ?_
  intro W base args ds gs before hval hW _ _
  exact contract H enc W base args ds gs before hval hW
theorem proved : Rows.ScriptStepsSaid :=
  OpenClaim.holds_of_wide 3 Try.f3 rfl rfl rfl rfl rfl rfl rfl ⟨rfl, rfl, rfl, rfl, rfl⟩ rfl rfl rfl rfl rfl (by kernel_rfl) Try.func3 (by kernel_rfl)
    (of_decide_eq_true (by kernel_rfl)) (by unfold Func.isWrapper; first | (rw [if_pos (by decide +kernel)]; kernel_rfl) | (rw [if_neg (by decide +kernel)]; exact ⟨rfl, rfl⟩))
    (fun os started H enc _ => lifted os started H enc)
end lawScriptSteps
end Go.Proofs.Ytinfbaflkjghhaa
