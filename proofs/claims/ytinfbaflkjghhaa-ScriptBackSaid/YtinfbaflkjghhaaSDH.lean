/- 'ScriptBack' answers true for every row of steps and every text.
   No condition beyond the row's own. -/
import Derived.Test.YtinfbaflkjghhaaSDA
import Derived.Test.YtinfbaflkjghhaaSDG
import Derived.Test.YtinfbaflkjghhaaSDC
import Derived.Test.YtinfbaflkjghhaaSDF
import Derived.Test.YtinfbaflkjghhaaRows
/- ScriptBack. -/
set_option linter.unusedSimpArgs false
set_option linter.unusedVariables false
namespace Go.Proofs.Ytinfbaflkjghhaa
open Go.RowKit
def goodS (s : StT) : Bool := decide (sdE (sdT s) = 0)
theorem filt_yes {Ts : List StT} {i : Nat} {x : StT} (hx : Ts[i]? = some x) (h : sdE (sdT x) = 0) : (Ts.take (i + 1)).filter goodS = (Ts.take i).filter goodS ++ [x] := by
  rw [List.take_add_one, hx, List.filter_append]
  congr 1
  show List.filter goodS [x] = [x]
  have hg : goodS x = true := decide_eq_true h
  simp [hg]
theorem filt_no {Ts : List StT} {i : Nat} {x : StT} (hx : Ts[i]? = some x) (h : ¬ sdE (sdT x) = 0) : (Ts.take (i + 1)).filter goodS = (Ts.take i).filter goodS := by
  rw [List.take_add_one, hx, List.filter_append]
  show _ ++ List.filter goodS [x] = _
  rw [List.filter_cons_of_neg (by simpa [goodS] using h)]
  simp
set_option maxRecDepth 100000 in
set_option maxHeartbeats 4000000 in
theorem law_back (A : Option Addr) (n c : Nat) (Ls : List StT) (sT : ByteArray) (w : World) (h : RdS w w.heap.size 5 A n c (rowsV stC Ls)) (he : ∀ s ∈ Ls, RdS w w.heap.size 20 s.2.1 s.2.2.1 s.2.2.2.1 (rowsV opCells s.2.2.2.2)) (hi : ∀ s ∈ Ls, In4 s.1) (hn : n ≤ maxLen) :
    Calls Try.prog 5 #[.slice A n c, .string sT] w fun e w' => e = .returned (.bool true) ∧ Below w.heap.size w w' := by
  obtain ⟨iS, hiS, zS0, zS1, zS2⟩ := info_parts_ info_stp
  have H := Lib.hid h
  have HEa := Lib.hid he
  have Hi := Lib.hid hi
  clear h he hi
  have Hs : RowKit.Hid (∀ b ∈ tB sT, b < 256) := Lib.hid (tB_lt sT)
  have hsl : (tB sT).length = sT.size := by rw [← txt_size, txt_tB]
  have hse : txt (tB sT) = sT := txt_tB sT
  have hsc := txt_cut sT 3000
  obtain ⟨l, gl⟩ : ∃ z, tB sT = z := ⟨_, rfl⟩
  rw [gl] at hsl hse hsc Hs
  have Hsl := Lib.hid (And.intro hsl (And.intro hse hsc))
  clear gl hsl hse hsc
  go_enter Try.func5, Try.ntmps5
  go_wp2_with fail
  refine (shown23_any w).mono ?_
  rintro e w1 ⟨rfl, hb1⟩
  have HB1 := Lib.hid hb1
  clear hb1
  go_wp2_with fail
  refine (few23_any A n c Ls w1 (H.out.bl HB1.out) (fun s hs => (HEa.out s hs).bl HB1.out) hn).mono ?_
  rintro e w2 ⟨A2, c2, Ts, N, rfl, hN, hTm, hSt, hf8, hb2⟩
  have hIn : ∀ s ∈ Ls.map sdT, In4 s.1 := fun s hs => by
    obtain ⟨x, hx, rfl⟩ := List.mem_map.1 hs
    exact Hi.out x hx
  have HTs := Lib.hid (few_rd hSt hf8 hTm hIn)
  have HTl := Lib.hid (HTs.out.row.rlen stC_len (by decide))
  have HB2 := Lib.hid (bel_bl HB1.out hb2)
  clear hb2 hIn hTm hSt hf8 H HEa Hi HB1
  go_upto_region 5 with fail
  obtain ⟨wS, gwS⟩ : ∃ z, w2.alloc (.cells #[] 30) = z := ⟨_, rfl⟩
  have HO0 : RowKit.Hid (Ow w2 w2.heap.size 30 5 (.slice (some ⟨w2.heap.size, 0, none⟩) 0 0) 0 (rowsV stC []) wS) := Lib.hid (gwS ▸ Ow.new_ (cs := #[]) (Below.refl _ _) (Nat.le_refl _) (Nat.le_refl _) (Nat.zero_le _) rfl)
  obtain ⟨v0, gv0⟩ : ∃ z : Value, .slice (some ⟨w2.heap.size, 0, none⟩) 0 0 = z := ⟨_, rfl⟩
  rw [gwS, gv0]
  rw [gv0] at HO0
  clear gwS gv0
  have HT2 := HTs
  clear HTs
  go_loopw [7, 8] (fun v iv wr => ∃ (i k : Nat), i ≤ N ∧ k ≤ i ∧ iv = .int .i64 (i : Int) ∧ RowKit.Hid (Ow w2 w2.heap.size 30 5 v k (rowsV stC ((Ts.take i).filter goodS)) wr)) (fun _ i _ => N - (intOf i).toNat)
  case atStart => exact ⟨0, 0, Nat.zero_le _, Nat.le_refl _, rfl, HO0⟩
  case round =>
    clear HO0
    obtain ⟨i, k, hi, hki, rfl, HO⟩ := hrel
    obtain ⟨wo, gwo⟩ : ∃ z, wr = z := ⟨_, rfl⟩
    rw [gwo] at HO ⊢
    clear gwo
    have HTs := Lib.hid (HT2.out.bl HO.out.below)
    obtain ⟨Ac, cc, rfl, -⟩ := HO.out.rds
    by_cases hlt : i < N
    · have hltI : (i : Int) < (N : Int) := by omega
      obtain ⟨x, hx⟩ : ∃ x, Ts[i]? = some x := ⟨_, List.getElem?_eq_getElem (by have := HTl.out; omega)⟩
      have HOx := Lib.hid (HTs.out.each x (List.mem_of_getElem? hx))
      obtain ⟨bb, off, hA2, hbB, -⟩ := HTs.out.row.place stC_len (by decide) (by omega)
      subst hA2
      have HPl := Lib.hid (fun (W : World) (hW : RdS W W.heap.size 5 (some ⟨bb, off, none⟩) N c2 (rowsV stC Ts)) => RdS.elem stC_len hW hx)
      have HFy := Lib.hid (fun h => filt_yes (x := x) hx h)
      have HFn := Lib.hid (fun h => filt_no (x := x) hx h)
      have HPu := Lib.hid (fun W (h : StOk W x) => put23_any x W h.ops h.few)
      obtain ⟨⟨k1', k2', k3', k4'⟩, Ax, nx, cx, Lx⟩ := x
      have HPu : RowKit.Hid (∀ W (h : StOk W ((k1', k2', k3', k4'), (Ax, nx, cx, Lx))), Calls Try.prog 13 #[.agg #[.int .i64 k1', .int .i64 k2', .int .i64 k3', .int .i64 k4', .slice Ax nx cx]] W (GivesP W (sdT ((k1', k2', k3', k4'), (Ax, nx, cx, Lx))))) := HPu
      obtain ⟨x9, gx9⟩ : ∃ z : StT, ((k1', k2', k3', k4'), (Ax, nx, cx, Lx)) = z := ⟨_, rfl⟩
      have hcx : stC x9 = [.int .i64 k1', .int .i64 k2', .int .i64 k3', .int .i64 k4', .slice Ax nx cx] := by rw [← gx9]; rfl
      have Hcx := Lib.hid hcx
      rw [gx9] at HPu HFy HFn HPl HOx
      obtain ⟨ex, gex⟩ : ∃ z, sdE (sdT x9) = z := ⟨_, rfl⟩
      rw [gex] at HFy HFn
      have hp := HPl.out wo HTs.out.row
      have l0 := hp 0 (.int .i64 k1') (by rw [Hcx.out]; rfl)
      have l1 := hp 1 (.int .i64 k2') (by rw [Hcx.out]; rfl)
      have l2 := hp 2 (.int .i64 k3') (by rw [Hcx.out]; rfl)
      have l3 := hp 3 (.int .i64 k4') (by rw [Hcx.out]; rfl)
      have l4 := hp 4 (.slice Ax nx cx) (by rw [Hcx.out]; rfl)
      simp only [Addr.add_lit, Nat.add_zero] at l0 l1 l2 l3 l4
      clear hx hbB hp hcx gx9
      go_wp2_with fail
      refine (HPu.out wo HOx.out).mono ?_
      rintro e w3 ⟨A3, c3, rfl, ho3, hb3⟩
      have HTs3 := Lib.hid (HTs.out.bl hb3)
      have HO3 := Lib.hid (HO.out.up hb3)
      rw [gex]
      clear l0 l1 l2 l3 l4
      have hp := HPl.out w3 HTs3.out.row
      have l0 := hp 0 (.int .i64 k1') (by rw [Hcx.out]; rfl)
      have l1 := hp 1 (.int .i64 k2') (by rw [Hcx.out]; rfl)
      have l2 := hp 2 (.int .i64 k3') (by rw [Hcx.out]; rfl)
      have l3 := hp 3 (.int .i64 k4') (by rw [Hcx.out]; rfl)
      have l4 := hp 4 (.slice Ax nx cx) (by rw [Hcx.out]; rfl)
      simp only [Addr.add_lit, Nat.add_zero] at l0 l1 l2 l3 l4
      clear ho3 hb3 HTs HOx hp HPu gex HO
      by_cases hz : ex = 0
      · have HF := Lib.hid (HFy.out hz)
        subst hz
        clear HFy HFn
        go_upto_region 9 with fail
        clear l0 l1 l2 l3 l4
        refine wp_region_lit ?_
        refine wl_read (v := ?_) (some 40) rfl (by rfl) ?_ ?_
        rotate_left
        · go_simp; (try with_reducible rfl)
        simp only [Act.put, stA_, st0_, st1_]
        refine wl_read (v := ?_) (some 41) rfl (by rfl) ?_ ?_
        rotate_left
        · go_simp; (try with_reducible rfl)
        simp only [Act.put, stA_, st0_, st1_]
        refine wl_read (v := ?_) (some 42) rfl (by rfl) ?_ ?_
        rotate_left
        · go_simp; (try with_reducible rfl)
        simp only [Act.put, stA_, st0_, st1_]
        refine wl_read (v := ?_) (some 43) rfl (by rfl) ?_ ?_
        rotate_left
        · go_simp; (try with_reducible rfl)
        simp only [Act.put, stA_, st0_, st1_]
        refine wl_load_at (some 44) rfl (by rfl) 30 (.tmp 43) rfl ⟨bb, off + i * 5, none⟩ rfl (stC x9) _ (HPl.out w3 HTs3.out.row) Try.underlying30 rfl (by rw [Hcx.out]; kernel_rfl) ?_
        simp only [Act.put, stA_, st0_, st1_]
        refine wl_buildSlice (some 45) rfl (by rfl) 22 30 1 #[(0, .tmp 44)] rfl Try.underlying22 (stC x9).toArray (by kernel_rfl) ?_
        simp only [Act.put, stA_, st0_, st1_]
        have HL4 : RowKit.Hid (RdS (w3.alloc (.cells (stC x9).toArray 30)) (w3.alloc (.cells (stC x9).toArray 30)).heap.size 5 (some ⟨w3.heap.size, 0, none⟩) 1 1 (rowsV stC [x9])) := Lib.hid (by rw [rowsS1]; exact RdS.of_whole8 (Whole.new_ _ _ _) rfl)
        have HO4 := Lib.hid (HO3.out.up (below1 w3 (.cells (stC x9).toArray 30)))
        obtain ⟨W4, gW4⟩ : ∃ z, w3.alloc (.cells (stC x9).toArray 30) = z := ⟨_, rfl⟩
        obtain ⟨g9, gg9⟩ : ∃ z, w3.heap.size = z := ⟨_, rfl⟩
        rw [gW4] at HL4 HO4 ⊢
        rw [gg9] at HL4 ⊢
        clear gW4 gg9 HO3 HTs3 HPl
        go_wp2_with (first
          | (at_builtin
             refine wpList_push2 rfl (.tmp 40) (.tmp 45) _ rfl _ 30 iS _ 5 56 Try.underlying22 hiS zS0 zS1 zS2 rfl (by decide) _ _ _ rfl HO4.out _ _ _ _ _ rfl HL4.out (rowsV_one stC stC_one [x9]) (by unfold maxLen; omega) (by omega) ?_
             intro v5 W6 how5 hb6 hgr5
             obtain ⟨A5, c5, rfl, -⟩ := how5.rds
             have HO5 := Lib.hid how5
             clear how5 hb6 hgr5))
        go_roundw
        case rel => exact ⟨i + 1, k + 1, by omega, by omega, by go_num, Lib.hid (by rw [HF.out, rowsV_app]; exact HO5.out)⟩
        case measure => simp [intOf]; omega
      · have HF := Lib.hid (HFn.out hz)
        clear HFy HFn
        go_wp2
        go_roundw
        case rel => exact ⟨i + 1, k, by omega, by omega, by go_num, by rw [HF.out]; exact HO3⟩
        case measure => simp [intOf]; omega
    · obtain rfl : N = i := by omega
      have hni : ¬ (N : Int) < (N : Int) := by omega
      have hU : (Ts.take N).filter goodS = Ts.filter goodS := by rw [List.take_of_length_le (by rw [HTl.out]; exact Nat.le_refl _)]
      have hOw := HO.out
      rw [hU] at hOw
      have hUl := own_rows_len hOw.own
      have HUs : RowKit.Hid (StRd wo Ac k cc (Ts.filter goodS)) := Lib.hid ⟨own_rds hOw.own, fun s hs => HTs.out.each s (List.mem_filter.1 hs).1⟩
      have hgd : ∀ x ∈ (Ts.filter goodS).map sdT, In4 x.1 ∧ sdE x = 0 := fun x hx => by
        obtain ⟨s, hs, rfl⟩ := List.mem_map.1 hx
        exact ⟨(HUs.out.each s hs).hd, of_decide_eq_true (List.mem_filter.1 hs).2⟩
      have hXl : ((Ts.filter goodS).map sdT).length = k := by rw [List.length_map]; exact hUl
      have HBo := Lib.hid (bel_bl HB2.out HO.out.below)
      obtain ⟨Us, gUs⟩ : ∃ z, Ts.filter goodS = z := ⟨_, rfl⟩
      rw [gUs] at HUs hgd hXl
      obtain ⟨X, gX⟩ : ∃ z, Us.map sdT = z := ⟨_, rfl⟩
      have HX := Lib.hid gX
      rw [gX] at hgd hXl
      have hE0 : prE X = 0 := prE_zero X (fun x hx => (hgd x hx).2)
      have hPb : (prB X).length ≤ 65536 := by have := prB_len X hE0; omega
      have hPS := parS_back hgd (by omega) hPb
      have HQ := Lib.hid (fun W => parse_q (prB X) W (prB_lt X) (by omega))
      rw [hPS] at HQ
      have hPr : prS X = prB X := by unfold prS; rw [if_pos hE0]
      have hPl : (txt (prB X)).size ≤ 65536 := by rw [txt_size]; exact hPb
      have HPr := Lib.hid (And.intro hPr hE0)
      clear hU hOw hUl hgd gUs gX hE0 hPb hPS hPr HO HTs HT2 HB2 HTl
      go_upto_if 49 with fail
      go_cut [1] (fun v z => ∃ l : List Nat, v = .string (txt l) ∧ z = wo ∧ l.length ≤ 3000 ∧ ∀ b ∈ l, b < 256)
      case first =>
        have hsl := Hsl.out.1
        have hse := Hsl.out.2.1
        have hsc := Hsl.out.2.2
        by_cases hgt : 3000 < sT.size
        · have hg1 : (3000 : Int) < (sT.size : Int) := by omega
          have hg2 : 3000 ≤ sT.size := by omega
          go_wp2
          go_meet
          exact ⟨l.take 3000, by first | rfl | rw [hsc], rfl, by rw [List.length_take]; omega, fun b h => Hs.out b (List.mem_of_mem_take h)⟩
        · have hg1 : ¬ (3000 : Int) < (sT.size : Int) := by omega
          go_wp2
          go_meet
          exact ⟨l, by first | rw [hse] | rfl, rfl, by omega, Hs.out⟩
      case rest =>
        clear Hs Hsl l
        obtain ⟨l, rfl, rfl, hl, hb⟩ := hcut
        obtain ⟨w5, gw5⟩ : ∃ z, wc = z := ⟨_, rfl⟩
        rw [gw5] at HUs HBo ⊢
        clear gw5
        have HQ2 := Lib.hid (fun W => parse_q l W hb (by omega))
        have hgo := parS_good (l := l)
        have hba := parS_bad (l := l)
        obtain ⟨⟨Y, N2, E2⟩, gR⟩ : ∃ z, parS l = z := ⟨_, rfl⟩
        rw [gR] at HQ2 hgo hba
        have Hgo : RowKit.Hid (E2 = 0 → (∀ x ∈ Y, sdE x = 0) ∧ prB Y = l ∧ Y.length ≤ 2048 ∧ N2 = 0) := Lib.hid hgo
        have Hba : RowKit.Hid (¬ E2 = 0 → Y = []) := Lib.hid hba
        obtain ⟨t, gt⟩ : ∃ z, txt l = z := ⟨_, rfl⟩
        have Gt := Lib.hid gt
        rw [gt] at HQ2 ⊢
        clear gR hgo hba gt hl hb
        go_wp2_with fail
        refine (print_any Ac k cc Us w5 HUs.out (by omega)).mono ?_
        rintro e w6 ⟨rfl, hb6⟩
        rw [HX.out, HPr.out.1, HPr.out.2]
        have HUs6 := Lib.hid (HUs.out.bl hb6)
        have HB6 := Lib.hid (bel_bl HBo.out hb6)
        obtain ⟨p, gp⟩ : ∃ z, txt (prB X) = z := ⟨_, rfl⟩
        rw [gp] at HQ hPl ⊢
        have hPI : (p.size : Int) ≤ 65536 := by omega
        clear hb6 HUs HBo gp HPr
        go_wp2_with fail
        refine (HQ.out w6).mono ?_
        rintro e w7 ⟨A7, n7, c7, Ms, rfl, hm7, hs7, -, hn7, hb7⟩
        have HS7 := Lib.hid hs7
        have HU7 := Lib.hid (HUs6.out.bl hb7)
        have HM7 := Lib.hid hm7
        have HB7 := Lib.hid (bel_bl HB6.out hb7)
        clear hs7 hm7 hb7 HUs6 HB6 HQ
        go_wp2_with fail
        refine (rsame23_any Ac k cc Us A7 n7 c7 Ms w7 HU7.out HS7.out (by omega)).mono ?_
        rintro e w8 ⟨rfl, hb8⟩
        rw [show decide (List.map sdT Us = List.map sdT Ms) = true from decide_eq_true (by rw [HX.out, HM7.out])]
        have HB8 := Lib.hid (bel_bl HB7.out hb8)
        clear hb8 HS7 HU7 HM7 HB7 HX
        go_wp2_with fail
        refine (HQ2.out w8).mono ?_
        rintro e w9 ⟨A9, n9, c9, Vs, rfl, hm9, hs9, hn9, hk9, hb9⟩
        have HS9 := Lib.hid hs9
        have HM9 := Lib.hid hm9
        have HN9 := Lib.hid hn9
        have HB9 := Lib.hid (bel_bl HB8.out hb9)
        clear hs9 hm9 hn9 hb9 HB8 HQ2
        by_cases hz : E2 = 0
        · obtain ⟨q1, q2, q3, q4⟩ := Hgo.out hz
          have hE0 : prE Y = 0 := prE_zero Y q1
          have hPr : prS Y = l := by unfold prS; rw [if_pos hE0]; exact q2
          have hnY : n9 ≤ 2048 := by rw [HN9.out]; exact q3
          have HPY := Lib.hid (And.intro hPr hE0)
          subst hz
          clear q1 q2 q3 q4 hE0 hPr Hgo Hba HN9
          go_wp2_with fail
          refine (print_any A9 n9 c9 Vs w9 HS9.out hnY).mono ?_
          rintro e w10 ⟨rfl, hb10⟩
          rw [HM9.out, HPY.out.1, HPY.out.2, Gt.out]
          have HB10 := Lib.hid (bel_bl HB9.out hb10)
          clear hb10 HPY HM9 HS9 HB9 Gt
          go_wp2
          go_ret
          exact ⟨rfl, HB10.out⟩
        · have hY := Hba.out hz
          obtain rfl : n9 = 0 := by rw [HN9.out, hY]; rfl
          clear hY Hgo Hba HN9 HM9 HS9
          go_wp2
          go_ret
          exact ⟨rfl, HB9.out⟩
end Go.Proofs.Ytinfbaflkjghhaa
/- Out of XOp13, XOpTy -/
namespace Go.Proofs.Ytinfbaflkjghhaa
open Go.RowKit
def idCells (p : Int × Int) : List Value := [.int .i64 p.1, .int .i64 p.2]
theorem row1_id (H : Type) : Row1 H Try.prog 47 idCells (fun _ _ => True) :=
  (row1_struct Try.underlying47 (by kernel_rfl) (fields_cons (k := 1) (row1_int Try.underlying3) rfl (by kernel_rfl) (fields_cons (k := 1) (row1_int Try.underlying3) rfl (by kernel_rfl) (fields_nil _)))).map
    (fun a => (a.1, a.2.1)) (fun _ => rfl) (fun _ _ _ => trivial)
def dCells (d : Int × Int × Int) : List Value := [.int .i64 d.1, .int .i64 d.2.1, .int .i64 d.2.2]
theorem row1_dart (H : Type) : Row1 H Try.prog 49 dCells (fun _ _ => True) :=
  (row1_struct Try.underlying49 (by kernel_rfl) (fields_cons (k := 2) (row1_id H) rfl (by kernel_rfl) (fields_cons (k := 1) (row1_int Try.underlying3) rfl (by kernel_rfl) (fields_nil _)))).map
    (fun a => (a.1.1, a.1.2, a.2.1)) (fun _ => rfl) (fun _ _ _ => trivial)
def cnCells (d : Int × Int × Int × Int × Int) : List Value := [.int .i64 d.1, .int .i64 d.2.1, .int .i64 d.2.2.1, .int .i64 d.2.2.2.1, .int .i64 d.2.2.2.2]
theorem row1_corner (H : Type) : Row1 H Try.prog 51 cnCells (fun _ _ => True) :=
  (row1_struct Try.underlying51 (by kernel_rfl) (fields_cons (k := 2) (row1_id H) rfl (by kernel_rfl) (fields_cons (k := 3) (row1_dart H) rfl (by kernel_rfl) (fields_nil _)))).map
    (fun a => (a.1.1, a.1.2, a.2.1.1, a.2.1.2.1, a.2.1.2.2)) (fun _ => rfl) (fun _ _ _ => trivial)
theorem row1_op (H : Type) : Row1 H Try.prog 53 opCells (fun _ o => o.t.size ≤ maxLen) :=
  (row1_struct Try.underlying53 (by kernel_rfl) (fields_cons (k := 1) (row1_int Try.underlying3) rfl (by kernel_rfl) (fields_cons (k := 2) (row1_id H) rfl (by kernel_rfl) (fields_cons (k := 2) (row1_id H) rfl (by kernel_rfl) (fields_cons (k := 2) (row1_id H) rfl (by kernel_rfl)
    (fields_cons (k := 5) (row1_corner H) rfl (by kernel_rfl) (fields_cons (k := 5) (row1_corner H) rfl (by kernel_rfl) (fields_cons (k := 1) (row1_bool Try.underlying4) rfl (by kernel_rfl) (fields_cons (k := 1) (row1_string Try.underlying9) rfl (by kernel_rfl)
    (fields_cons (k := 1) (row1_int Try.underlying3) rfl (by kernel_rfl) (fields_nil _))))))))))).map
    (fun a => ⟨a.1, a.2.1.1, a.2.1.2, a.2.2.1.1, a.2.2.1.2, a.2.2.2.1.1, a.2.2.2.1.2, a.2.2.2.2.1.1, a.2.2.2.2.1.2.1, a.2.2.2.2.1.2.2.1, a.2.2.2.2.1.2.2.2.1, a.2.2.2.2.1.2.2.2.2,
      a.2.2.2.2.2.1.1, a.2.2.2.2.2.1.2.1, a.2.2.2.2.2.1.2.2.1, a.2.2.2.2.2.1.2.2.2.1, a.2.2.2.2.2.1.2.2.2.2, a.2.2.2.2.2.2.1, a.2.2.2.2.2.2.2.1, a.2.2.2.2.2.2.2.2.1⟩) (fun _ => rfl) (fun _ _ h => h.2.2.2.2.2.2.2.1)
theorem row1_edit (H : Type) : Row1 H Try.prog 28 (slCells (α := OpT)) (SlOk 20 opCells (fun _ o => o.t.size ≤ maxLen)) :=
  (row1_struct Try.underlying28 (by kernel_rfl) (fields_cons (k := 1) (row1_slice (row1_op H) Try.underlying26 (by kernel_rfl) opCells_len' (by decide)) rfl (by kernel_rfl) (fields_nil _))).map
    (fun a => a.1) (fun _ => by simp) (fun _ _ h => h.1)
end Go.Proofs.Ytinfbaflkjghhaa
/- The laws' types of layer 8: bytes. -/
namespace Go.Proofs.Ytinfbaflkjghhaa
open Go.ChangeShapes Go.WideShapes Go.ChangeAt Go.RowKit
end Go.Proofs.Ytinfbaflkjghhaa
/- Types of layer 23 as data. -/
namespace Go.Proofs.Ytinfbaflkjghhaa
open Go.ChangeShapes Go.WideShapes Go.ChangeAt Go.RowKit
def StpOk (W : World) (s : StT) : Prop := In4 s.1 ∧ SlOk 20 opCells (fun _ o => o.t.size ≤ maxLen) W s.2
theorem row1_step (H : Type) : Row1 H Try.prog 30 stC StpOk :=
  (row1_struct Try.underlying30 (by kernel_rfl) (fields_cons (k := 1) (row1_int Try.underlying3) rfl (by kernel_rfl) (fields_cons (k := 1) (row1_int Try.underlying3) rfl (by kernel_rfl) (fields_cons (k := 1) (row1_int Try.underlying3) rfl (by kernel_rfl) (fields_cons (k := 1) (row1_int Try.underlying3) rfl (by kernel_rfl) (fields_cons (k := 1) (row1_edit H) rfl (by kernel_rfl) (fields_nil _))))))).map
    (fun a => ((a.1, a.2.1, a.2.2.1, a.2.2.2.1), a.2.2.2.2.1)) (fun _ => rfl) (fun _ _ h => ⟨⟨h.1, h.2.1, h.2.2.1, h.2.2.2.1⟩, h.2.2.2.2.1⟩)
end Go.Proofs.Ytinfbaflkjghhaa
/- 'ScriptBack' answers true for every row of steps and every text.
   No condition beyond the row's own. -/
namespace Go.Proofs.Ytinfbaflkjghhaa
open Go.ChangeShapes Go.WideShapes Go.ChangeAt Go.RowKit
namespace lawScriptBack
set_option maxRecDepth 100000 in
theorem contract (H : Type) (enc : TypeId × Value → H) (W : World) (base : Nat) (args : Array Value) (ds gs : List (DataW H)) (before : List MemPlace)
    (hval : ∀ (j : Nat) t v, Try.f5.params[j]? = some t → args[j]? = some v → Value.okWide Try.prog W .any base t v)
    (hW : DataW.Whole enc Try.prog Try.f5.params.toList Rows.scriptBackSpec.vars false W args.toList ds gs before) :
    Calls Try.prog 5 args W fun e W' => ∃ v, e = .returned v ∧ Rows.scriptBackSpec.post enc Try.prog Try.f5 false true false false W args v W' := by
  have hW' := hW
  obtain ⟨p, q, hA, hV, rfl, hfz, hnd⟩ := hW
  obtain ⟨rfl, rfl⟩ := trodVars_none hV
  rw [Try.params5] at hA hval
  obtain ⟨v0, v1, d0, d1, p0, p1, rfl, rfl, rfl, h0, h1⟩ := trodAll_two hA
  obtain ⟨l, rfl, hx0⟩ := open_row1_slice (row1_step H) Try.underlying22 (by kernel_rfl) stC_len (by decide) (hval 0 22 v0 rfl rfl) h0
  obtain ⟨s, rfl, -, -, hs1⟩ := Go.ChangeMaps.open_string Try.underlying9 (hval 1 9 v1 rfl rfl) h1
  refine (law_back l.1 l.2.1 l.2.2.1 l.2.2.2 s W hx0.2.1 (fun s hs => (hx0.2.2 s hs).2.2.1) (fun s hs => (hx0.2.2 s hs).1) (Nat.le_trans hx0.2.1.le hx0.1)).mono fun e W' ⟨he, hb⟩ => ⟨_, he, ?_⟩
  exact law_post Try.laidOut (by kernel_rfl) (tb := 4) (by kernel_rfl) Try.underlying4 rfl ⟨rfl, rfl, rfl⟩ hW' hb
set_option maxRecDepth 100000 in
theorem lifted (os : Os) (started : os.Started) (H : Type) (enc : TypeId × Value → H) :
    ReturnsInHanded {} Try.checked os 5 .any (Rows.scriptBackSpec.pre6 enc Try.prog Try.f5 Rows.scriptBackRow.domain false) (Rows.scriptBackSpec.post enc Try.prog Try.f5 false true false false) := by
  refine returnsInHanded_of_change (C := Try.checked) Try.own started (by kernel_rfl) Try.func5
    (ChangeSpec.witness6 (enc := enc) (C := Try.checked) false ⟨#[], #[.slice none 0 0, .string { data := #[] }], []⟩ 8 (by kernel_rfl) (by kernel_rfl) (by kernel_rfl) (by kernel_rfl)) ?_
  intro W base args ds gs before hval hW _ _
  exact contract H enc W base args ds gs before hval hW
theorem proved : Rows.ScriptBackSaid :=
  OpenClaim.holds_of_wide 5 Try.f5 rfl rfl rfl rfl rfl rfl rfl ⟨rfl, rfl, rfl, rfl, rfl⟩ rfl rfl rfl rfl rfl (by kernel_rfl) Try.func5 (by kernel_rfl)
    (of_decide_eq_true (by kernel_rfl)) (by unfold Func.isWrapper; first | (rw [if_pos (by decide +kernel)]; kernel_rfl) | (rw [if_neg (by decide +kernel)]; exact ⟨rfl, rfl⟩))
    (fun os started H enc _ => lifted os started H enc)
end lawScriptBack
end Go.Proofs.Ytinfbaflkjghhaa
