/- 'ScriptJoins' answers true for every two rows of steps.
   No condition beyond the row's own. -/
import Derived.Test.YtinfbaflkjghhaaSEA
import Derived.Test.YtinfbaflkjghhaaSEG
import Derived.Test.YtinfbaflkjghhaaSEC
import Derived.Test.YtinfbaflkjghhaaSEF
import Derived.Test.YtinfbaflkjghhaaRows
/- ScriptJoins. -/
set_option linter.unusedSimpArgs false
set_option linter.unusedVariables false
namespace Go.Proofs.Ytinfbaflkjghhaa
open Go.RowKit
theorem rds_one {w : World} {Bd n c i : Nat} {A : Option Addr} {L : List StT} {x : StT} (h : RdS w Bd 5 A n c (rowsV stC L)) (hx : L[i]? = some x) (hi : i < n) : RdS w Bd 5 (if c = i then A else A.map (·.add (i * 5))) (i + 1 - i) (c - i) (rowsV stC [x]) := by
  have h1 := (h.take_ (i + 1) hi).low_ (Nat.le_succ i)
  have e : (rowsV stC L).take ((i + 1) * 5) = rowsV stC (L.take (i + 1)) := (rowsV_take stC stC_len L (i + 1)).symm
  rw [e, ← rowsV_drop stC stC_len, show (L.take (i + 1)).drop i = [x] by
    rw [List.take_add_one, hx, List.drop_append, List.length_take, Nat.min_eq_left (by
      obtain ⟨hi, -⟩ := List.getElem?_eq_some_iff.1 hx
      omega), Nat.sub_self, List.drop_of_length_le (by rw [List.length_take]; omega)]
    rfl] at h1
  exact h1
theorem prB_app (X Y : List SD) : prB (X ++ Y) = prB X ++ prB Y := by simp [prB]
theorem prB_one (x : SD) : prB [x] = lnB x := by simp [prB]
theorem prE_one (x : SD) : prE [x] = sdE x := by
  show (if sdE x = 0 then 0 else sdE x) = sdE x
  split
  · rename_i h; rw [h]
  · rfl
theorem parS_torn {X Y : List SD} (h : ∀ x ∈ X, In4 x.1 ∧ sdE x = 0) (hl : X.length + Y.length ≤ 2000) (hb : (prB X).length + (prB Y).length ≤ 65500) : parS (prB X ++ ([48, 103, 10] ++ prB Y)) = ([], X.length + 1, 240) := by
  unfold parS
  rw [List.count_append, List.count_append, cnt_prB, cnt_prB, if_neg (by
    rw [List.length_append, List.length_append]
    simp only [List.length_cons, List.length_nil]
    have : List.count 10 [48, 103, 10] = 1 := by decide
    omega)]
  rw [lns_prB, show lns [] ([48, 103, 10] ++ prB Y) = [48, 103, 10] :: lns [] (prB Y) by
    show lns [] ([48, 103] ++ 10 :: prB Y) = _
    rw [lns_cut _ _ _ (by decide)]
    rfl]
  rw [prT_back _ X [] h, prT, if_neg (by decide)]
  rfl
set_option maxRecDepth 100000 in
set_option maxHeartbeats 4000000 in
theorem law_joins (A : Option Addr) (n c : Nat) (Ls : List StT) (A' : Option Addr) (n' c' : Nat) (Ms : List StT) (w : World)
    (h : RdS w w.heap.size 5 A n c (rowsV stC Ls)) (he : ∀ s ∈ Ls, RdS w w.heap.size 20 s.2.1 s.2.2.1 s.2.2.2.1 (rowsV opCells s.2.2.2.2)) (hi : ∀ s ∈ Ls, In4 s.1) (hn : n ≤ maxLen)
    (h' : RdS w w.heap.size 5 A' n' c' (rowsV stC Ms)) (he' : ∀ s ∈ Ms, RdS w w.heap.size 20 s.2.1 s.2.2.1 s.2.2.2.1 (rowsV opCells s.2.2.2.2)) (hi' : ∀ s ∈ Ms, In4 s.1) (hn' : n' ≤ maxLen) :
    Calls Try.prog 6 #[.slice A n c, .slice A' n' c'] w fun e w' => e = .returned (.bool true) ∧ Below w.heap.size w w' := by
  obtain ⟨iS, hiS, zS0, zS1, zS2⟩ := info_parts_ info_stp
  have H := Lib.hid h
  have HEa := Lib.hid he
  have Hi := Lib.hid hi
  have H' := Lib.hid h'
  have HEa' := Lib.hid he'
  have Hi' := Lib.hid hi'
  clear h he hi h' he' hi'
  go_enter Try.func6, Try.ntmps6
  go_wp2_with fail
  refine (shown23_any w).mono ?_
  rintro e w1 ⟨rfl, hb1⟩
  have HB1 := Lib.hid (bel_al hb1 (.cells #[] 30))
  clear hb1
  obtain ⟨g0, gg0⟩ : ∃ z, w1.heap.size = z := ⟨_, rfl⟩
  obtain ⟨wS, gwS⟩ : ∃ z, w1.alloc (.cells #[] 30) = z := ⟨_, rfl⟩
  rw [gwS] at HB1
  go_upto_region 6 with fail
  clear gg0 gwS
  go_wp2_with fail
  refine (few23_any A n c Ls wS (H.out.bl HB1.out) (fun s hs => (HEa.out s hs).bl HB1.out) hn).mono ?_
  rintro e w2 ⟨A2, c2, Ts, N, rfl, hN, hTm, hSt, hf8, hb2⟩
  have hIn : ∀ s ∈ Ls.map sdT, In4 s.1 := fun s hs => by
    obtain ⟨x, hx, rfl⟩ := List.mem_map.1 hs
    exact Hi.out x hx
  have HTs := Lib.hid (few_rd hSt hf8 hTm hIn)
  have HTl := Lib.hid (HTs.out.row.rlen stC_len (by decide))
  have HB2 := Lib.hid (bel_bl HB1.out hb2)
  have hO2 : Ow w2 w2.heap.size 30 5 (.slice (some ⟨w2.heap.size, 0, none⟩) 0 0) 0 (rowsV stC []) (w2.alloc (.cells #[] 30)) := Ow.new_ (cs := #[]) (Below.refl _ _) (Nat.le_refl _) (Nat.le_refl _) (Nat.zero_le _) rfl
  have HTs2 := Lib.hid (HTs.out.bl (below1 w2 (.cells #[] 30)))
  clear hb2 hIn hTm hSt hf8 H HEa Hi HB1
  go_upto_region 7 with fail
  go_wp2_with (first
    | (at_builtin
       refine wpList_push2 rfl (.tmp 26) (.tmp 27) _ rfl _ 30 iS _ 5 56 Try.underlying22 hiS zS0 zS1 zS2 rfl (by decide) _ _ _ rfl hO2 _ _ _ _ _ rfl HTs2.out.row (rowsV_one stC stC_one Ts) (by unfold maxLen; omega) (by omega) ?_
       intro v3 w3 how3 hb3 hgr3
       rw [Nat.zero_add] at how3
       obtain ⟨A3, c3, rfl, -⟩ := how3.rds
       have HO3 := Lib.hid how3
       clear how3 hb3 hgr3 hO2))
  have HBo3 := Lib.hid (bel_bl HB2.out HO3.out.below)
  refine (few23_any A' n' c' Ms w3 (H'.out.bl HBo3.out) (fun s hs => (HEa'.out s hs).bl HBo3.out) hn').mono ?_
  rintro e w4 ⟨A4, c4, Us, M, rfl, hM, hTm, hSt, hf8, hb4⟩
  have hIn : ∀ s ∈ Ms.map sdT, In4 s.1 := fun s hs => by
    obtain ⟨x, hx, rfl⟩ := List.mem_map.1 hs
    exact Hi'.out x hx
  have HUs := Lib.hid (few_rd hSt hf8 hTm hIn)
  have HUw := Lib.hid hSt
  have HUl := Lib.hid (HUs.out.row.rlen stC_len (by decide))
  have HO4 := Lib.hid (HO3.out.up hb4)
  clear hb4 hIn hTm hSt hf8 H' HEa' Hi' HBo3 HO3 HTs2
  go_upto_region 9 with (first
    | (at_builtin
       refine wpList_push2 rfl (.tmp 28) (.tmp 30) _ rfl _ 30 iS _ 5 56 Try.underlying22 hiS zS0 zS1 zS2 rfl (by decide) _ _ _ rfl HO4.out _ _ _ _ _ rfl HUs.out.row (rowsV_one stC stC_one Us) (by unfold maxLen; omega) (by omega) ?_
       intro v5 w5 how5 hb5 hgr5
       obtain ⟨A5, c5, rfl, -⟩ := how5.rds
       have HO5 := Lib.hid how5
       have HU5 : RowKit.Hid (∀ s ∈ Us, w5.ownsRow w3.heap.size 53 20 (.slice s.2.1 s.2.2.1 s.2.2.2.1) s.2.2.1 (rowsV opCells s.2.2.2.2)) := Lib.hid (fun s hs => own_grow (HUw.out.each s hs) HO4.out.own (by decide) hgr5)
       clear how5 hb5 hgr5))
  obtain ⟨Bs, gBs⟩ : ∃ z, Ts ++ Us = z := ⟨_, rfl⟩
  obtain ⟨K, gK⟩ : ∃ z, N + M = z := ⟨_, rfl⟩
  have hBo : StRd w5 A5 (N + M) c5 Bs := ⟨by rw [← gBs, rowsV_app]; exact own_rds HO5.out.own, fun s hs => by
    rw [← gBs] at hs
    rcases List.mem_append.1 hs with hs | hs
    · exact (HTs.out.each s hs).bl HO5.out.below
    · have h9 := HUs.out.each s hs
      exact ⟨own_rds (HU5.out s hs), h9.few, h9.txt, h9.hd⟩⟩
  have HBl : RowKit.Hid (Bs.length = K) := Lib.hid (by rw [← gBs, List.length_append, HTl.out, HUl.out]; omega)
  rw [gK] at hBo
  try rw [gK]
  have HBo := Lib.hid hBo
  have HB5 := Lib.hid (bel_bl HB2.out HO5.out.below)
  have hK60 : K ≤ 60 := by omega
  have hNK : N ≤ K := by omega
  clear hBo gBs gK HTs HUs HUw HUl HO4 HO5 HU5 HB2 HTl
  have HG0 : RowKit.Hid (Gr w5 g0 30 5 (.slice (some ⟨g0, 0, none⟩) 0 0) 0 (rowsV stC ([] ++ [])) w5) := Lib.hid (.inl ⟨rfl, rfl, rfl, Below.refl _ _⟩)
  obtain ⟨v0, gv0⟩ : ∃ z : Value, .slice (some ⟨g0, 0, none⟩) 0 0 = z := ⟨_, rfl⟩
  rw [gv0] at HG0 ⊢
  clear gv0
  go_loopw [6, 7, 8, 9, 12] (fun av bv v nv iv wr => ∃ (i k : Nat) (P Q : List StT) (pa pb : ByteArray), i ≤ K ∧ k ≤ i ∧ av = .string pa ∧ bv = .string pb ∧ nv = .int .i64 ((P.length : Nat) : Int) ∧ iv = .int .i64 (i : Int) ∧ RowKit.Hid (Gr w5 g0 30 5 v k (rowsV stC (P ++ Q)) wr) ∧ RowKit.Hid (pa = txt (prB (P.map sdT)) ∧ pb = txt (prB (Q.map sdT))) ∧ RowKit.Hid ((∀ s ∈ P ++ Q, s ∈ Bs ∧ sdE (sdT s) = 0) ∧ P.length + Q.length = k ∧ (i ≤ N → Q = []))) (fun _ _ _ _ i _ => K - (intOf i).toNat)
  case atStart => exact ⟨0, 0, [], [], { data := #[] }, { data := #[] }, Nat.zero_le _, Nat.le_refl _, rfl, rfl, rfl, rfl, HG0, Lib.hid ⟨rfl, rfl⟩, Lib.hid ⟨fun s hs => (by cases hs), rfl, fun _ => rfl⟩⟩
  case round =>
    clear HG0
    obtain ⟨i, k, P, Q, pa, pb, hi, hki, rfl, rfl, rfl, rfl, HG, HT, HF⟩ := hrel
    obtain ⟨wo, gwo⟩ : ∃ z, wr = z := ⟨_, rfl⟩
    rw [gwo] at HG ⊢
    clear gwo
    obtain ⟨Ac, cc, rfl, -⟩ := HG.out.rds
    have hgd : (∀ x ∈ P.map sdT, In4 x.1 ∧ sdE x = 0) ∧ ∀ x ∈ Q.map sdT, In4 x.1 ∧ sdE x = 0 := ⟨fun x hx => by
      obtain ⟨s, hs, rfl⟩ := List.mem_map.1 hx
      have h9 := HF.out.1 s (by simp [hs])
      exact ⟨(HBo.out.each s h9.1).hd, h9.2⟩, fun x hx => by
      obtain ⟨s, hs, rfl⟩ := List.mem_map.1 hx
      have h9 := HF.out.1 s (by simp [hs])
      exact ⟨(HBo.out.each s h9.1).hd, h9.2⟩⟩
    have hpl := prB_len (P.map sdT) (prE_zero _ (fun x hx => (hgd.1 x hx).2))
    have hql := prB_len (Q.map sdT) (prE_zero _ (fun x hx => (hgd.2 x hx).2))
    rw [List.length_map] at hpl hql
    have hpa : pa.size = (prB (P.map sdT)).length := by rw [HT.out.1, txt_size]
    have hpb : pb.size = (prB (Q.map sdT)).length := by rw [HT.out.2, txt_size]
    have hPQ := HF.out.2.1
    have hpas : pa.size ≤ 343 * P.length := by omega
    have hpbs : pb.size ≤ 343 * Q.length := by omega
    by_cases hlt : i < K
    · have hltI : (i : Int) < (K : Int) := by omega
      obtain ⟨x, hx⟩ : ∃ x, Bs[i]? = some x := ⟨_, List.getElem?_eq_getElem (by have := HBl.out; omega)⟩
      have hxm := List.mem_of_getElem? hx
      have HBw := Lib.hid (HBo.out.bl HG.out.below)
      have HOx := Lib.hid (HBw.out.each x hxm)
      have hcap : i + 1 ≤ c5 := by have := HBw.out.row.le; omega
      have hr1 := rds_one HBw.out.row hx hlt
      obtain ⟨Ax, gAx⟩ : ∃ z, (if c5 = i then A5 else A5.map (fun a => a.add (i * 5))) = z := ⟨_, rfl⟩
      have hr2 : RdS wo wo.heap.size 5 Ax 1 (c5 - i) (rowsV stC [x]) := by rw [← gAx, show (1 : Nat) = i + 1 - i by omega]; exact hr1
      have HS1 : RowKit.Hid (StRd wo Ax 1 (c5 - i) [x]) := Lib.hid ⟨hr2, fun s hs => by obtain rfl := List.mem_singleton.1 hs; exact HOx.out⟩
      obtain ⟨bb, off, hA5, hbB, -⟩ := HBo.out.row.place stC_len (by decide) (by omega)
      have HPl := Lib.hid (fun (W : World) (hW : RdS W W.heap.size 5 A5 K c5 (rowsV stC Bs)) => RdS.elem stC_len (hA5 ▸ hW) hx)
      have HFs := Lib.hid (And.intro hgd.1 hgd.2)
      obtain ⟨i1, gi1⟩ : ∃ z, i + 1 = z := ⟨_, rfl⟩
      have e1 : IntKind.i64.wrap ((i : Int) + 1) = (i1 : Int) := by rw [show (i : Int) + 1 = (i1 : Int) by omega]; exact IntWalk.i64_in _ (by omega)
      have hm1 : i1 - i = 1 := by omega
      have hi1c : i1 ≤ c5 := by omega
      have hii1 : i ≤ i1 := by omega
      have Hxm := Lib.hid hxm
      have HA5 := Lib.hid hA5
      clear hA5 hx hxm hr1 hr2 hbB hgd hpl hql hpa hpb hcap HBw HOx
      go_upto_region 11 with fail
      refine wp_region_lit ?_
      refine wl_read (v := ?_) (some 39) rfl (by rfl) ?_ ?_
      rotate_left
      · go_simp; (try with_reducible rfl)
      simp only [Act.put, stA_, st0_, st1_]
      refine wl_read (v := ?_) (some 40) rfl (by rfl) ?_ ?_
      rotate_left
      · go_simp; (try with_reducible rfl)
      simp only [Act.put, stA_, st0_, st1_]
      refine wl_read (v := ?_) (some 41) rfl (by rfl) ?_ ?_
      rotate_left
      · go_simp; (try with_reducible rfl)
      simp only [Act.put, stA_, st0_, st1_]
      refine wl_read (v := ?_) (some 42) rfl (by rfl) ?_ ?_
      rotate_left
      · go_simp; (try with_reducible rfl)
      simp only [Act.put, stA_, st0_, st1_]
      refine wl_run (some 43) rfl (by rfl) (exec_slice_both 22 30 (.tmp 39) (.tmp 40) (.tmp 42) rfl Try.underlying22 (s := 5) (by kernel_rfl) rfl rfl rfl hii1 hi1c) ?_
      rw [hm1, gAx]
      simp only [Act.put, stA_, st0_, st1_]
      clear gAx hm1 e1 gi1
      go_wp2_with fail
      refine (print_any Ax 1 (c5 - i) [x] wo HS1.out (by decide)).mono ?_
      rintro e w6 ⟨rfl, hb6⟩
      have hsl : ∀ h0 : sdE (sdT x) = 0, prS [sdT x] = lnB (sdT x) := fun h0 => by unfold prS; rw [prE_one, if_pos h0, prB_one]
      have hll : ∀ h0 : sdE (sdT x) = 0, (lnB (sdT x)).length ≤ 343 := fun h0 => lnB_len h0
      rw [show [x].map sdT = [sdT x] from rfl, prE_one]
      have HG6 := Lib.hid (HG.out.up hb6)
      obtain ⟨ex, gex⟩ : ∃ z, sdE (sdT x) = z := ⟨_, rfl⟩
      have Gex := Lib.hid gex
      rw [gex] at hsl hll ⊢
      clear hb6 HG HS1 gex
      by_cases hz : ex = 0
      · rw [hsl hz]
        have hul := hll hz
        subst hz
        obtain ⟨u, gu⟩ : ∃ z, txt (lnB (sdT x)) = z := ⟨_, rfl⟩
        have hus : u.size ≤ 343 := by rw [← gu, txt_size]; exact hul
        have Gu := Lib.hid gu
        rw [gu]
        clear hsl hll hul gu
        obtain rfl := HA5.out
        go_upto_region 13 with fail
        refine wp_region_lit ?_
        refine wl_read (v := ?_) (some 49) rfl (by rfl) ?_ ?_
        rotate_left
        · go_simp; (try with_reducible rfl)
        simp only [Act.put, stA_, st0_, st1_]
        refine wl_read (v := ?_) (some 50) rfl (by rfl) ?_ ?_
        rotate_left
        · go_simp; (try with_reducible rfl)
        simp only [Act.put, stA_, st0_, st1_]
        refine wl_read (v := ?_) (some 51) rfl (by rfl) ?_ ?_
        rotate_left
        · go_simp; (try with_reducible rfl)
        simp only [Act.put, stA_, st0_, st1_]
        refine wl_read (v := ?_) (some 52) rfl (by rfl) ?_ ?_
        rotate_left
        · go_simp; (try with_reducible rfl)
        simp only [Act.put, stA_, st0_, st1_]
        refine wl_load_at (some 53) rfl (by rfl) 30 (.tmp 52) rfl ⟨bb, off + i * 5, none⟩ rfl (stC x) _ (HPl.out w6 (HBo.out.bl HG6.out.below).row) Try.underlying30 rfl (by rw [stC_len]; kernel_rfl) ?_
        simp only [Act.put, stA_, st0_, st1_]
        refine wl_buildSlice (some 54) rfl (by rfl) 22 30 1 #[(0, .tmp 53)] rfl Try.underlying22 (stC x).toArray (by kernel_rfl) ?_
        simp only [Act.put, stA_, st0_, st1_]
        have HL4 : RowKit.Hid (RdS (w6.alloc (.cells (stC x).toArray 30)) (w6.alloc (.cells (stC x).toArray 30)).heap.size 5 (some ⟨w6.heap.size, 0, none⟩) 1 1 (rowsV stC [x])) := Lib.hid (by rw [show rowsV stC [x] = stC x by simp [rowsV]]; exact RdS.of_whole8 (Whole.new_ _ _ _) rfl)
        have HG4 := Lib.hid (HG6.out.up (below1 w6 (.cells (stC x).toArray 30)))
        obtain ⟨W4, gW4⟩ : ∃ z, w6.alloc (.cells (stC x).toArray 30) = z := ⟨_, rfl⟩
        obtain ⟨g9, gg9⟩ : ∃ z, w6.heap.size = z := ⟨_, rfl⟩
        rw [gW4] at HL4 HG4 ⊢
        rw [gg9] at HL4 ⊢
        obtain ⟨v7, W7, hrun7, hG7, -⟩ := Gr.app (P := Try.prog) 22 22 30 iS _ 5 56 g0 Try.underlying22 hiS zS0 zS1 zS2 rfl (by decide) _ _ _ HG4.out _ _ 1 1 _ HL4.out (rowsV_one stC stC_one [x]) (by decide) (by unfold maxLen; omega) (by omega)
        obtain ⟨A7, c7, rfl, -⟩ := hG7.rds
        clear gW4 gg9 HPl
        by_cases hiN : i < N
        · have hc1 : ¬ (9223372036854775807 : Int) < ((pa.size + u.size : Nat) : Int) := by omega
          have hd1 : ¬ 9223372036854775807 < pa.size + u.size := by omega
          have he1 : ¬ (9223372036854775807 : Int) < (((pa.size : Nat) : Int) + ((u.size : Nat) : Int)) := by omega
          obtain rfl := HF.out.2.2 (by omega)
          have hPl : P.length = k := by have := HF.out.2.1; simpa using this
          have hNI : (i : Int) < (N : Int) := by omega
          have e2 : IntKind.i64.wrap ((k : Int) + 1) = ((k + 1 : Nat) : Int) := by rw [show (k : Int) + 1 = ((k + 1 : Nat) : Int) by omega]; exact IntWalk.i64_in _ (by omega)
          obtain ⟨k1, gk1⟩ : ∃ z, k + 1 = z := ⟨_, rfl⟩
          rw [gk1] at e2 hrun7 hG7
          rw [hPl]
          have HG7 := Lib.hid hG7
          clear hG7 HG6 HG4
          go_wp2_with (first | (at_builtin; refine wpList_app rfl (.tmp 49) (.tmp 54) 22 rfl rfl rfl hrun7 ?_; clear hrun7))
          go_roundw
          case rel =>
            refine ⟨i + 1, k1, P ++ [x], [], pa ++ u, pb, by omega, by omega, rfl, rfl, by rw [List.length_append, hPl, ← gk1]; rfl, by go_num, Lib.hid ?_, Lib.hid ⟨?_, HT.out.2⟩, Lib.hid ⟨fun s hs => ?_, ?_, fun _ => rfl⟩⟩
            · have h9 := HG7.out
              rw [List.append_nil] at h9 ⊢
              rw [rowsV_app]
              exact h9
            · rw [HT.out.1, ← Gu.out, txt_app, List.map_append, prB_app]
              show _ = txt (_ ++ prB [sdT x])
              rw [prB_one]
            · rw [List.append_nil] at hs
              rcases List.mem_append.1 hs with hs | hs
              · exact HF.out.1 s (by simp [hs])
              · obtain rfl := List.mem_singleton.1 hs
                exact ⟨Hxm.out, Gex.out⟩
            · rw [List.length_append, hPl, ← gk1]; rfl
          case measure => simp [intOf]; omega
        · have hc1 : ¬ (9223372036854775807 : Int) < ((pb.size + u.size : Nat) : Int) := by omega
          have hd1 : ¬ 9223372036854775807 < pb.size + u.size := by omega
          have he1 : ¬ (9223372036854775807 : Int) < (((pb.size : Nat) : Int) + ((u.size : Nat) : Int)) := by omega
          have hNI : ¬ (i : Int) < (N : Int) := by omega
          obtain ⟨k1, gk1⟩ : ∃ z, k + 1 = z := ⟨_, rfl⟩
          rw [gk1] at hrun7 hG7
          obtain ⟨pl, gpl⟩ : ∃ z, P.length = z := ⟨_, rfl⟩
          rw [gpl]
          have HG7 := Lib.hid hG7
          clear hG7 HG6 HG4
          go_wp2_with (first | (at_builtin; refine wpList_app rfl (.tmp 49) (.tmp 54) 22 rfl rfl rfl hrun7 ?_; clear hrun7))
          go_roundw
          case rel =>
            refine ⟨i + 1, k1, P, Q ++ [x], pa, pb ++ u, by omega, by omega, rfl, rfl, by rw [gpl], by go_num, Lib.hid ?_, Lib.hid ⟨HT.out.1, ?_⟩, Lib.hid ⟨fun s hs => ?_, ?_, fun h => absurd h (by omega)⟩⟩
            · have h9 := HG7.out
              rw [← List.append_assoc, rowsV_app]
              exact h9
            · rw [HT.out.2, ← Gu.out, txt_app, List.map_append, prB_app]
              show _ = txt (_ ++ prB [sdT x])
              rw [prB_one]
            · rw [← List.append_assoc] at hs
              rcases List.mem_append.1 hs with hs | hs
              · exact HF.out.1 s hs
              · obtain rfl := List.mem_singleton.1 hs
                exact ⟨Hxm.out, Gex.out⟩
            · have := HF.out.2.1
              rw [List.length_append, ← gk1]; simp; omega
          case measure => simp [intOf]; omega
      · clear hsl hll
        go_wp2
        go_roundw
        case rel => exact ⟨i + 1, k, P, Q, pa, pb, by omega, by omega, rfl, rfl, rfl, by go_num, HG6, HT, Lib.hid ⟨HF.out.1, HF.out.2.1, fun h => HF.out.2.2 (by omega)⟩⟩
        case measure => simp [intOf]; omega
    · obtain rfl : K = i := by omega
      have hni : ¬ (K : Int) < (K : Int) := by omega
      obtain ⟨Ad, cd, hvd, hrd⟩ := HG.out.rds
      cases hvd
      have HSa : RowKit.Hid (StRd wo Ac k cc (P ++ Q)) := Lib.hid ⟨hrd, fun s hs => (HBo.out.each s (HF.out.1 s hs).1).bl HG.out.below⟩
      have HBz := Lib.hid (bel_bl HB5.out HG.out.below)
      have hPl : (P.map sdT).length = P.length := List.length_map ..
      have hQl : (Q.map sdT).length = Q.length := List.length_map ..
      have hMap : (P ++ Q).map sdT = P.map sdT ++ Q.map sdT := List.map_append
      have HMap := Lib.hid hMap
      obtain ⟨X, gX⟩ : ∃ z, P.map sdT = z := ⟨_, rfl⟩
      obtain ⟨Y, gY⟩ : ∃ z, Q.map sdT = z := ⟨_, rfl⟩
      obtain ⟨pl, gpl⟩ : ∃ z, P.length = z := ⟨_, rfl⟩
      have hT1 := HT.out.1
      have hT2 := HT.out.2
      rw [gX] at hgd hpa hPl hT1 HMap
      rw [gY] at hgd hpb hQl hT2 HMap
      rw [gpl] at hPl hpas hPQ ⊢
      have hXY : ∀ x ∈ X ++ Y, In4 x.1 ∧ sdE x = 0 := fun x hx => (List.mem_append.1 hx).elim (hgd.1 x) (hgd.2 x)
      have hback := parS_back hXY (by rw [List.length_append]; omega) (by rw [prB_app, List.length_append]; omega)
      have htorn := parS_torn (X := X) (Y := Y) hgd.1 (by omega) (by omega)
      have HQ1 := Lib.hid (fun W => parse_q (prB (X ++ Y)) W (prB_lt _) (by rw [prB_app, List.length_append]; omega))
      have HQ2 := Lib.hid (fun W => parse_q (prB X ++ ([48, 103, 10] ++ prB Y)) W (fun b hb => by
        rcases List.mem_append.1 hb with hb | hb
        · exact prB_lt _ b hb
        · rcases List.mem_append.1 hb with hb | hb
          · simp only [List.mem_cons, List.not_mem_nil, or_false] at hb; omega
          · exact prB_lt _ b hb) (by rw [List.length_append, List.length_append]; simp only [List.length_cons, List.length_nil]; omega))
      rw [hback] at HQ1
      rw [htorn] at HQ2
      have hab : pa ++ pb = txt (prB (X ++ Y)) := by rw [hT1, hT2, txt_app, prB_app]
      have habc : pa ++ ({ data := #[48, 103, 10] } : ByteArray) ++ pb = txt (prB X ++ ([48, 103, 10] ++ prB Y)) := by
        rw [hT1, hT2, show ({ data := #[48, 103, 10] } : ByteArray) = txt [48, 103, 10] from rfl, txt_app, txt_app, List.append_assoc]
      rw [← hab] at HQ1
      rw [← habc, hPl] at HQ2
      have hc1 : ¬ (9223372036854775807 : Int) < ((pa.size + pb.size : Nat) : Int) := by omega
      have hd1 : ¬ 9223372036854775807 < pa.size + pb.size := by omega
      have he1 : ¬ (9223372036854775807 : Int) < (((pa.size : Nat) : Int) + ((pb.size : Nat) : Int)) := by omega
      have hc2 : ¬ (9223372036854775807 : Int) < ((pa.size + 3 : Nat) : Int) := by omega
      have hd2 : ¬ 9223372036854775807 < pa.size + 3 := by omega
      have he2 : ¬ (9223372036854775807 : Int) < (((pa.size : Nat) : Int) + 3) := by omega
      have hc3 : ¬ (9223372036854775807 : Int) < (((pa.size + 3) + pb.size : Nat) : Int) := by omega
      have hd3 : ¬ 9223372036854775807 < (pa.size + 3) + pb.size := by omega
      have he3 : ¬ (9223372036854775807 : Int) < ((((pa.size : Nat) : Int) + 3) + (pb.size : Int)) := by omega
      have ew : IntKind.i64.wrap ((pa.size : Int) + (pb.size : Int)) = (pa.size : Int) + (pb.size : Int) := IntWalk.i64_in _ (by omega)
      have hnb : ¬ (65527 : Int) < (pa.size : Int) + (pb.size : Int) := by omega
      have e2 : IntKind.i64.wrap ((pl : Int) + 1) = ((pl + 1 : Nat) : Int) := by rw [show (pl : Int) + 1 = ((pl + 1 : Nat) : Int) by omega]; exact IntWalk.i64_in _ (by omega)
      obtain ⟨p1, gp1⟩ : ∃ z, pl + 1 = z := ⟨_, rfl⟩
      rw [gp1] at e2 HQ2
      clear hgd hpl hql hpa hpb hPQ hpas hpbs hrd hPl hQl hMap gX gY gpl hT1 hT2 hXY hback htorn hab habc gp1 HG HT HF HBo HBl HB5
      go_wp2_with fail
      refine (HQ1.out wo).mono ?_
      rintro e w7 ⟨A7, n7, c7, Vs, rfl, hm7, hs7, -, hn7, hb7⟩
      have HS7 := Lib.hid hs7
      have HSa7 := Lib.hid (HSa.out.bl hb7)
      have HM7 := Lib.hid hm7
      have HB7 := Lib.hid (bel_bl HBz.out hb7)
      clear hs7 hm7 hb7 HSa HBz HQ1
      go_wp2_with fail
      refine (rsame23_any A7 n7 c7 Vs Ac k cc (P ++ Q) w7 HS7.out HSa7.out (by omega)).mono ?_
      rintro e w8 ⟨rfl, hb8⟩
      rw [show decide (List.map sdT Vs = List.map sdT (P ++ Q)) = true from decide_eq_true (by rw [HM7.out, HMap.out])]
      have HB8 := Lib.hid (bel_bl HB7.out hb8)
      clear hb8 HS7 HSa7 HM7 HMap HB7
      go_wp2_with fail
      refine (HQ2.out w8).mono ?_
      rintro e w9 ⟨A9, n9, c9, Ws, rfl, -, -, hn9, hk9, hb9⟩
      obtain rfl : n9 = 0 := hn9
      have HB9 := Lib.hid (bel_bl HB8.out hb9)
      clear hb9 HB8 HQ2
      go_wp2
      go_ret
      exact ⟨rfl, HB9.out⟩
end Go.Proofs.Ytinfbaflkjghhaa
/- Out of XOp13, XOpTy -/
namespace Go.Proofs.Ytinfbaflkjghhaa
open Go.RowKit
def idCells (p : Int × Int) : List Value := [.int .i64 p.1, .int .i64 p.2]
theorem row1_id (H : Type) : Row1 H Try.prog 47 idCells (fun _ _ => True) :=
  (row1_struct Try.underlying47 (by kernel_rfl) (fields_cons (k := 1) (row1_int Try.underlying3) rfl (by kernel_rfl) (fields_cons (k := 1) (row1_int Try.underlying3) rfl (by kernel_rfl) (fields_nil _)))).map
    (fun a => (a.1, a.2.1)) (fun _ => rfl) (fun _ _ _ => trivial)
def dCells (d : Int × Int × Int) : List Value := [.int .i64 d.1, .int .i64 d.2.1, .int .i64 d.2.2]
theorem row1_dart (H : Type) : Row1 H Try.prog 49 dCells (fun _ _ => True) :=
  (row1_struct Try.underlying49 (by kernel_rfl) (fields_cons (k := 2) (row1_id H) rfl (by kernel_rfl) (fields_cons (k := 1) (row1_int Try.underlying3) rfl (by kernel_rfl) (fields_nil _)))).map
    (fun a => (a.1.1, a.1.2, a.2.1)) (fun _ => rfl) (fun _ _ _ => trivial)
def cnCells (d : Int × Int × Int × Int × Int) : List Value := [.int .i64 d.1, .int .i64 d.2.1, .int .i64 d.2.2.1, .int .i64 d.2.2.2.1, .int .i64 d.2.2.2.2]
theorem row1_corner (H : Type) : Row1 H Try.prog 51 cnCells (fun _ _ => True) :=
  (row1_struct Try.underlying51 (by kernel_rfl) (fields_cons (k := 2) (row1_id H) rfl (by kernel_rfl) (fields_cons (k := 3) (row1_dart H) rfl (by kernel_rfl) (fields_nil _)))).map
    (fun a => (a.1.1, a.1.2, a.2.1.1, a.2.1.2.1, a.2.1.2.2)) (fun _ => rfl) (fun _ _ _ => trivial)
theorem row1_op (H : Type) : Row1 H Try.prog 53 opCells (fun _ o => o.t.size ≤ maxLen) :=
  (row1_struct Try.underlying53 (by kernel_rfl) (fields_cons (k := 1) (row1_int Try.underlying3) rfl (by kernel_rfl) (fields_cons (k := 2) (row1_id H) rfl (by kernel_rfl) (fields_cons (k := 2) (row1_id H) rfl (by kernel_rfl) (fields_cons (k := 2) (row1_id H) rfl (by kernel_rfl)
    (fields_cons (k := 5) (row1_corner H) rfl (by kernel_rfl) (fields_cons (k := 5) (row1_corner H) rfl (by kernel_rfl) (fields_cons (k := 1) (row1_bool Try.underlying4) rfl (by kernel_rfl) (fields_cons (k := 1) (row1_string Try.underlying9) rfl (by kernel_rfl)
    (fields_cons (k := 1) (row1_int Try.underlying3) rfl (by kernel_rfl) (fields_nil _))))))))))).map
    (fun a => ⟨a.1, a.2.1.1, a.2.1.2, a.2.2.1.1, a.2.2.1.2, a.2.2.2.1.1, a.2.2.2.1.2, a.2.2.2.2.1.1, a.2.2.2.2.1.2.1, a.2.2.2.2.1.2.2.1, a.2.2.2.2.1.2.2.2.1, a.2.2.2.2.1.2.2.2.2,
      a.2.2.2.2.2.1.1, a.2.2.2.2.2.1.2.1, a.2.2.2.2.2.1.2.2.1, a.2.2.2.2.2.1.2.2.2.1, a.2.2.2.2.2.1.2.2.2.2, a.2.2.2.2.2.2.1, a.2.2.2.2.2.2.2.1, a.2.2.2.2.2.2.2.2.1⟩) (fun _ => rfl) (fun _ _ h => h.2.2.2.2.2.2.2.1)
theorem row1_edit (H : Type) : Row1 H Try.prog 28 (slCells (α := OpT)) (SlOk 20 opCells (fun _ o => o.t.size ≤ maxLen)) :=
  (row1_struct Try.underlying28 (by kernel_rfl) (fields_cons (k := 1) (row1_slice (row1_op H) Try.underlying26 (by kernel_rfl) opCells_len' (by decide)) rfl (by kernel_rfl) (fields_nil _))).map
    (fun a => a.1) (fun _ => by simp) (fun _ _ h => h.1)
end Go.Proofs.Ytinfbaflkjghhaa
/- The laws' types of layer 8: bytes. -/
namespace Go.Proofs.Ytinfbaflkjghhaa
open Go.ChangeShapes Go.WideShapes Go.ChangeAt Go.RowKit
end Go.Proofs.Ytinfbaflkjghhaa
/- Types of layer 23 as data. -/
namespace Go.Proofs.Ytinfbaflkjghhaa
open Go.ChangeShapes Go.WideShapes Go.ChangeAt Go.RowKit
def StpOk (W : World) (s : StT) : Prop := In4 s.1 ∧ SlOk 20 opCells (fun _ o => o.t.size ≤ maxLen) W s.2
theorem row1_step (H : Type) : Row1 H Try.prog 30 stC StpOk :=
  (row1_struct Try.underlying30 (by kernel_rfl) (fields_cons (k := 1) (row1_int Try.underlying3) rfl (by kernel_rfl) (fields_cons (k := 1) (row1_int Try.underlying3) rfl (by kernel_rfl) (fields_cons (k := 1) (row1_int Try.underlying3) rfl (by kernel_rfl) (fields_cons (k := 1) (row1_int Try.underlying3) rfl (by kernel_rfl) (fields_cons (k := 1) (row1_edit H) rfl (by kernel_rfl) (fields_nil _))))))).map
    (fun a => ((a.1, a.2.1, a.2.2.1, a.2.2.2.1), a.2.2.2.2.1)) (fun _ => rfl) (fun _ _ h => ⟨⟨h.1, h.2.1, h.2.2.1, h.2.2.2.1⟩, h.2.2.2.2.1⟩)
end Go.Proofs.Ytinfbaflkjghhaa
/- 'ScriptJoins' answers true for every two rows of steps.
   No condition beyond the row's own. -/
namespace Go.Proofs.Ytinfbaflkjghhaa
open Go.ChangeShapes Go.WideShapes Go.ChangeAt Go.RowKit
namespace lawScriptJoins
set_option maxRecDepth 100000 in
theorem contract (H : Type) (enc : TypeId × Value → H) (W : World) (base : Nat) (args : Array Value) (ds gs : List (DataW H)) (before : List MemPlace)
    (hval : ∀ (j : Nat) t v, Try.f6.params[j]? = some t → args[j]? = some v → Value.okWide Try.prog W .any base t v)
    (hW : DataW.Whole enc Try.prog Try.f6.params.toList Rows.scriptJoinsSpec.vars false W args.toList ds gs before) :
    Calls Try.prog 6 args W fun e W' => ∃ v, e = .returned v ∧ Rows.scriptJoinsSpec.post enc Try.prog Try.f6 false true false false W args v W' := by
  have hW' := hW
  obtain ⟨p, q, hA, hV, rfl, hfz, hnd⟩ := hW
  obtain ⟨rfl, rfl⟩ := trodVars_none hV
  rw [Try.params6] at hA hval
  obtain ⟨v0, v1, d0, d1, p0, p1, rfl, rfl, rfl, h0, h1⟩ := trodAll_two hA
  obtain ⟨l, rfl, hx0⟩ := open_row1_slice (row1_step H) Try.underlying22 (by kernel_rfl) stC_len (by decide) (hval 0 22 v0 rfl rfl) h0
  obtain ⟨m, rfl, hx1⟩ := open_row1_slice (row1_step H) Try.underlying22 (by kernel_rfl) stC_len (by decide) (hval 1 22 v1 rfl rfl) h1
  refine (law_joins l.1 l.2.1 l.2.2.1 l.2.2.2 m.1 m.2.1 m.2.2.1 m.2.2.2 W hx0.2.1 (fun s hs => (hx0.2.2 s hs).2.2.1) (fun s hs => (hx0.2.2 s hs).1) (Nat.le_trans hx0.2.1.le hx0.1) hx1.2.1 (fun s hs => (hx1.2.2 s hs).2.2.1) (fun s hs => (hx1.2.2 s hs).1) (Nat.le_trans hx1.2.1.le hx1.1)).mono fun e W' ⟨he, hb⟩ => ⟨_, he, ?_⟩
  exact law_post Try.laidOut (by kernel_rfl) (tb := 4) (by kernel_rfl) Try.underlying4 rfl ⟨rfl, rfl, rfl⟩ hW' hb
set_option maxRecDepth 100000 in
theorem lifted (os : Os) (started : os.Started) (H : Type) (enc : TypeId × Value → H) :
    ReturnsInHanded {} Try.checked os 6 .any (Rows.scriptJoinsSpec.pre6 enc Try.prog Try.f6 Rows.scriptJoinsRow.domain false) (Rows.scriptJoinsSpec.post enc Try.prog Try.f6 false true false false) := by
  refine returnsInHanded_of_change (C := Try.checked) Try.own started (by kernel_rfl) Try.func6
    (ChangeSpec.witness6 (enc := enc) (C := Try.checked) false ⟨#[], #[.slice none 0 0, .slice none 0 0], []⟩ 8 (by kernel_rfl) (by kernel_rfl) (by kernel_rfl) (by kernel_rfl)) ?_
  intro W base args ds gs before hval hW _ _
  exact contract H enc W base args ds gs before hval hW
theorem proved : Rows.ScriptJoinsSaid :=
  OpenClaim.holds_of_wide 6 Try.f6 rfl rfl rfl rfl rfl rfl rfl ⟨rfl, rfl, rfl, rfl, rfl⟩ rfl rfl rfl rfl rfl (by kernel_rfl) Try.func6 (by kernel_rfl)
    (of_decide_eq_true (by kernel_rfl)) (by unfold Func.isWrapper; first | (rw [if_pos (by decide +kernel)]; kernel_rfl) | (rw [if_neg (by decide +kernel)]; exact ⟨rfl, rfl⟩))
    (fun os started H enc _ => lifted os started H enc)
end lawScriptJoins
end Go.Proofs.Ytinfbaflkjghhaa
