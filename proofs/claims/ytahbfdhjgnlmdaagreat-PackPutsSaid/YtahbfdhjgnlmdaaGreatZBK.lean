/- Several texts in one. -/
import Derived.Test.YtahbfdhjgnlmdaaGreatZBJ
import Derived.Test.YtahbfdhjgnlmdaaGreatZBB
import Derived.Test.YtahbfdhjgnlmdaaGreatZBA
import Derived.Laws.IdiomStrings
import Derived.Laws.ShiftsVarLaws
import Derived.Test.YtahbfdhjgnlmdaaGreatZBG
import Derived.Test.YtahbfdhjgnlmdaaGreatZBF

/- pack.Put of a diagram that may be. -/
namespace Go.Proofs.YtahbfdhjgnlmdaaGreat
open Go.RowKit
set_option linter.unusedSimpArgs false
set_option linter.unusedVariables false

theorem ends_get {W : World} {b q : Nat} {e : I2 → Option Nat} (h : EndsM W b q e) {x : I2} (hx : wfI x) {j : Nat} (he : e x = some j) : (Instr.lookup 39 (.map (some b)) (.agg #[.int .i64 x.1, .int .i64 x.2]) false).run Tryz.prog W = .ok (.int .i64 (j : Int)) W := by
  have h1 := MapF.get (x := x) h Tryz.underlying39 (zero_intK W) hx
  rw [he] at h1
  exact h1
theorem kept_own {S : Nat → Prop} {w w' : World} {r : Option Nat} (hg : w.grownBy w' r) (hS : ∀ i, some i = r → S i) : Kept S w w' := ⟨hg.os, hg.tape, hg.output, hg.size, fun i hi hn => hg.block i hi (fun e => hn (hS i e))⟩
def restV (Es : List EC) (Us : List VS) (j : Nat) : List Nat := (Us.drop j).flatMap (vtB Es)
def restE (Es : List EC) (Us : List VS) (i : Nat) : List Nat := (Es.drop i).flatMap edB ++ (Us.length % 256 :: restV Es Us 0)
theorem restE_next {Es : List EC} {Us : List VS} {i : Nat} {e : EC} (h : Es[i]? = some e) : restE Es Us i = headB e.1 e.2.1 e.2.2 ++ restE Es Us (i + 1) := by
  obtain ⟨hi, q⟩ := List.getElem?_eq_some_iff.1 h
  unfold restE
  rw [List.drop_eq_getElem_cons hi, q, List.flatMap_cons, List.append_assoc]
  rfl
theorem restV_next {Es : List EC} {Us : List VS} {i : Nat} {v : VS} (h : Us[i]? = some v) : restV Es Us i = headB v.1 v.2.2.1 v.2.2.2 ++ ([v.2.1.length % 256] ++ ((v.2.1.drop 0).map (dB Es) ++ restV Es Us (i + 1))) := by
  obtain ⟨hi, q⟩ := List.getElem?_eq_some_iff.1 h
  unfold restV
  rw [List.drop_eq_getElem_cons hi, q, List.flatMap_cons, vtB, List.append_assoc]
  rfl
theorem rest_all (Es : List EC) (Us : List VS) : [Es.length % 256] ++ restE Es Us 0 = putD Us Es := rfl
theorem rest_len {X R P : List Nat} (h : X ++ R = P) (hP : P.length ≤ 4000) : X.length + R.length ≤ 4000 := by
  have := congrArg List.length h
  rw [List.length_append] at this
  omega
set_option maxRecDepth 100000 in
set_option maxHeartbeats 4000000 in
theorem put_yes (A : Option Addr) (n c : Nat) (Vs : List VC) (B : Option Addr) (m k : Nat) (Es : List EC) (w : World) (h : DgIn w A n c Vs B m k Es) (hg : GoodD Vs Es) (hr : ∀ x ∈ Vs, x.2.1.2.1 ≤ 1000000) (hm : mayF7 Vs Es = 0) :
    Calls Tryz.prog 6 #[.agg #[.slice A n c, .slice B m k]] w fun e w' => ∃ A' c', e = .returned (.tuple #[.slice A' (putD (Vs.map vS) Es).length c', .int .i64 0]) ∧ w'.ownsRow w.heap.size 5 1 (.slice A' (putD (Vs.map vS) Es).length c') (putD (Vs.map vS) Es).length (rowsV f8 (putD (Vs.map vS) Es)) ∧ Below w.heap.size w w' := by
  have HMy := Lib.hid (may7_any (A := A) (n := n) (c := c) (B := B) (m := m) (k := k) hr hg)
  rw [hm] at HMy
  have HD := Lib.hid h
  have HE := Lib.hid h.e
  have HV := Lib.hid h.v
  have HR := Lib.hid h.r
  have hf := may7_formed hm
  have HF := Lib.hid hf
  have Hle : RowKit.Hid (Es.length = m) := Lib.hid (h.e.rlen eC_len (by decide))
  have Hlv : RowKit.Hid (Vs.length = n) := Lib.hid (h.v.rlen vC_len (by decide))
  have hm40 : m ≤ 40 := by have := hf.e40; have := Hle.out; omega
  have hn24 : n ≤ 24 := by have := hf.v24; have := Hlv.out; omega
  have hP4 := putD_max hf
  have HGd := Lib.hid hg
  have Hnd : RowKit.Hid ((Es.map (·.1)).Nodup) := Lib.hid (rise_nodup hf.re)
  obtain ⟨Us, gUs⟩ : ∃ z, Vs.map vS = z := ⟨_, rfl⟩
  have HUs := Lib.hid gUs
  rw [gUs] at hP4 ⊢
  have hall := rest_all Es Us
  obtain ⟨P, gP⟩ : ∃ z, putD Us Es = z := ⟨_, rfl⟩
  rw [gP] at hP4 hall ⊢
  have HP4 := Lib.hid hP4
  rw [Hle.out] at hall
  have HUl : RowKit.Hid (Us.length = n) := Lib.hid (by rw [← gUs, List.length_map]; exact Hlv.out)
  obtain ⟨m8, gm8⟩ : ∃ z, m % 256 = z := ⟨_, rfl⟩
  rw [gm8] at hall
  have Hall := Lib.hid hall
  have hw8 : IntKind.u8.wrap (m : Int) = (m8 : Int) := by rw [IntKind.wrap_u8]; omega
  clear h hg hr hm hf gUs gP gm8 hall hP4
  have hmm := @run_makeMap Tryz.prog
  go_enter Tryz.func6, Tryz.ntmps6
  go_upto_region 1 with fail
  have hx0 : Whole (w.alloc (.cells #[.slice A n c, .slice B m k] 25)) (w.heap.size) 25 [.slice A n c, .slice B m k] := (Whole.new_ w 25 [.slice A n c, .slice B m k])
  have hbl : Below w.heap.size w (w.alloc (.cells #[.slice A n c, .slice B m k] 25)) := (below1 w (.cells #[.slice A n c, .slice B m k] 25))
  have hsz : w.heap.size + 1 ≤ ((w.alloc (.cells #[.slice A n c, .slice B m k] 25))).heap.size := by simp
  obtain ⟨W0, gW0⟩ : ∃ z, (w.alloc (.cells #[.slice A n c, .slice B m k] 25)) = z := ⟨_, rfl⟩
  rw [gW0] at hx0 hbl hsz
  obtain ⟨b0, gb0⟩ : ∃ z, w.heap.size = z := ⟨_, rfl⟩
  rw [gb0] at hx0
  have HX0 := Lib.hid hx0
  have HB0 := Lib.hid hbl
  have HS0 := Lib.hid hsz
  have Gb0 := Lib.hid gb0
  have Lb0 : RowKit.Hid (w.heap.size ≤ b0) := Lib.hid (by omega)
  rw [gW0, gb0]
  clear gW0 hbl hsz hx0 gb0
  have c0 := HX0.out.cell (i := 0) rfl
  have c1 := HX0.out.cell (i := 1) rfl
  have HD0 := Lib.hid (HD.out.bl HB0.out)
  go_upto_region 4 with (first | (go_at_call 14; refine (HMy.out _ HD0.out).mono ?_; rintro e w2 ⟨rfl, hb2⟩; have HB2 : RowKit.Hid (Below w.heap.size w w2) := Lib.hid (Ext.trans HB0.out hb2); have HX2 := Lib.hid (HX0.out.bl hb2); clear hb2 c0 c1))
  have c1 := HX2.out.cell (i := 1) rfl
  go_upto_region 5 with fail
  clear c1 HX0 HB0 HS0 HD0 HMy hw8
  have HO3 : RowKit.Hid (Ow w w.heap.size 5 1 (.slice (some ⟨w2.heap.size, 0, none⟩) 1 1) 1 (rowsV f8 [m8]) (w2.alloc (.cells #[.int .u8 (m8 : Int)] 5))) := Lib.hid (Ow.new_ (cs := #[.int .u8 (m8 : Int)]) HB2.out (Nat.le_refl _) HB2.out.size (by unfold maxLen; omega) rfl)
  have HX3 := Lib.hid (HX2.out.al (.cells #[.int .u8 (m8 : Int)] 5))
  have HB3 := Lib.hid (bel_al HB2.out (.cells #[.int .u8 (m8 : Int)] 5))
  have Hb03 : RowKit.Hid (b0 < w2.heap.size) := Lib.hid HX2.out.lt
  obtain ⟨w3, gw3⟩ : ∃ z, w2.alloc (.cells #[.int .u8 (m8 : Int)] 5) = z := ⟨_, rfl⟩
  rw [gw3] at HO3 HX3 HB3 ⊢
  have Hb04 : RowKit.Hid (b0 < w3.heap.size) := Lib.hid HX3.out.lt
  clear gw3 HX2 HB2 Hb03
  go_upto_region 6 with fail
  clear hmm
  have HO4 := Lib.hid (Ow.up HO3.out (below1 w3 (.map #[] 0)))
  have HX4 := Lib.hid (HX3.out.al (.map #[] 0))
  have HB4 := Lib.hid (bel_al HB3.out (.map #[] 0))
  have HM4 : RowKit.Hid (EndsM (w3.alloc (.map #[] 0)) w3.heap.size 0 (plM Es 0)) := Lib.hid (by rw [plM_zero]; exact show MapF _ keyID _ _ _ from MapF.made)
  obtain ⟨w4, gw4⟩ : ∃ z, w3.alloc (.map #[] 0) = z := ⟨_, rfl⟩
  have Hlo : RowKit.Hid (w.heap.size ≤ w3.heap.size) := Lib.hid HB3.out.size
  obtain ⟨bm, gbm⟩ : ∃ z, w3.heap.size = z := ⟨_, rfl⟩
  rw [gw4] at HO4 HX4 HB4 HM4 ⊢
  rw [gbm] at HM4 Hlo Hb04 ⊢
  obtain ⟨a1, ga1⟩ : ∃ z, (some (⟨w2.heap.size, 0, none⟩ : Addr)) = z := ⟨_, rfl⟩
  rw [ga1] at HO4 ⊢
  clear gw4 gbm HO3 HX3 HB3 ga1
  have c1 := HX4.out.cell (i := 1) rfl
  go_wp2
  clear c1
  go_loopw [5, 27] (fun v si wr => ∃ (i N : Nat) (A2 : Option Addr) (c2 : Nat) (X : List Nat), i ≤ m ∧ si = .int .i64 i ∧ v = .slice A2 N c2 ∧ RowKit.Hid (Below w.heap.size w wr) ∧ RowKit.Hid (Whole wr b0 25 [.slice A n c, .slice B m k]) ∧ RowKit.Hid (EndsM wr bm i (plM Es i)) ∧ RowKit.Hid (Ow w w.heap.size 5 1 (.slice A2 N c2) N (rowsV f8 X) wr) ∧ RowKit.Hid (X.length = N ∧ X ++ restE Es Us i = P)) (fun _ si _ => m - (intOf si).toNat)
  case atStart => exact ⟨0, 1, _, 1, [m8], by omega, rfl, rfl, HB4, HX4, HM4, HO4, Lib.hid ⟨rfl, Hall.out⟩⟩
  case round =>
    clear HB4 HX4 HM4 HO4
    obtain ⟨i, N, A2, c2, X, hi_, rfl, rfl, HB, HX, HM, HO, HXX⟩ := hrel
    obtain ⟨wo, gwo⟩ : ∃ z, wr = z := ⟨_, rfl⟩
    rw [gwo] at HB HX HM HO ⊢
    clear gwo
    by_cases him : i < m
    · obtain ⟨e, hx⟩ : ∃ e, Es[i]? = some e := ⟨_, List.getElem?_eq_getElem (by have := Hle.out; omega)⟩
      have hsz := HF.out.size.1 e (List.mem_of_getElem? hx)
      have hwe := (HGd.out.e e (List.mem_of_getElem? hx)).1
      have hnx := plM_next Hnd.out hx
      have hrs := HXX.out.2
      rw [restE_next hx, ← List.append_assoc] at hrs
      obtain ⟨eb, eo, gB, -, -⟩ := HE.out.place eC_len (by decide) (by omega)
      subst gB
      have hel := (HE.out.up HB.out HB.out.size).elem eC_len hx
      have l0 := hel 0 _ rfl
      have l1 := hel 1 _ rfl
      have l2 := hel 2 _ rfl
      have l3 := hel 3 _ rfl
      simp only [Addr.add_lit, Nat.add_zero] at l0 l1 l2 l3
      obtain ⟨⟨e1, e2⟩, el, et⟩ := e
      have Hsz : RowKit.Hid (el.size ≤ 16) := Lib.hid hsz
      have Hwe : RowKit.Hid (wfI (e1, e2)) := Lib.hid ⟨hwe.1, hwe.2.1⟩
      have Hnx := Lib.hid hnx
      have Hrs := Lib.hid hrs
      clear hel hsz hwe hnx hrs hx
      go_upto_region 9 with fail
      clear l0 l1 l2 l3
      have HOa := Lib.hid (Ow.up HO.out (below1 wo (.cells #[.int .i64 e1, .int .i64 e2, .string el, .int .i64 et] 43)))
      have HXa := Lib.hid (HX.out.al (.cells #[.int .i64 e1, .int .i64 e2, .string el, .int .i64 et] 43))
      have HMa := Lib.hid (HM.out.al (.cells #[.int .i64 e1, .int .i64 e2, .string el, .int .i64 et] 43))
      have HBa := Lib.hid (bel_al HB.out (.cells #[.int .i64 e1, .int .i64 e2, .string el, .int .i64 et] 43))
      have HEa := Lib.hid (Whole.new2 (w := wo) (t := 43) (cs := [.int .i64 e1, .int .i64 e2, .string el, .int .i64 et]) rfl)
      have Hnb : RowKit.Hid (wo.heap.size ≠ bm) := Lib.hid (by have := HM.out.lt; omega)
      obtain ⟨wa, gwa⟩ : ∃ z, wo.alloc (.cells #[.int .i64 e1, .int .i64 e2, .string el, .int .i64 et] 43) = z := ⟨_, rfl⟩
      obtain ⟨b8, gb8⟩ : ∃ z, wo.heap.size = z := ⟨_, rfl⟩
      rw [gwa] at HOa HXa HMa HBa HEa ⊢
      rw [gb8] at HEa Hnb ⊢
      clear gwa gb8 HO HX HM HB
      have d0 := HEa.out.cell (i := 0) rfl
      have d1 := HEa.out.cell (i := 1) rfl
      refine wp_region_lit ?_
      refine wl_read (v := ?_) (some 32) rfl (by rfl) ?_ ?_
      rotate_left
      · go_simp; (try with_reducible rfl)
      simp only [Act.put, List.setIfInBounds_toArray, List.set_cons_zero, List.set_cons_succ]
      refine wl_read (v := ?_) (some 33) rfl (by rfl) ?_ ?_
      rotate_left
      · go_simp; (try with_reducible rfl)
      simp only [Act.put, List.setIfInBounds_toArray, List.set_cons_zero, List.set_cons_succ]
      refine wl_read (v := ?_) (some 34) rfl (by rfl) ?_ ?_
      rotate_left
      · go_simp; (try with_reducible rfl)
      simp only [Act.put, List.setIfInBounds_toArray, List.set_cons_zero, List.set_cons_succ]
      refine wl_read (v := ?_) (some 35) rfl (by rfl) ?_ ?_
      rotate_left
      · go_simp; (try with_reducible rfl)
      simp only [Act.put, List.setIfInBounds_toArray, List.set_cons_zero, List.set_cons_succ]
      refine wl_mapPut rfl (.tmp 32) (.tmp 34) (.tmp 35) rfl rfl HMa.out Tryz.underlying39 (by unfold maxLen; omega) (x := ((e1, e2) : I2)) Hwe.out rfl rfl ?_
      intro w5 hm5 hg5
      clear d0 d1
      have HM5 : RowKit.Hid (EndsM w5 bm (i + 1) (plM Es (i + 1))) := Lib.hid (by rw [← Hnx.out]; exact ends_put hm5)
      have HX5 := Lib.hid (HXa.out.grown hg5 (fun e => by have := Option.some.inj e; have := Hb04.out; omega))
      have HE5 := Lib.hid (HEa.out.grown hg5 (fun e => Hnb.out (Option.some.inj e)))
      have HO5 : RowKit.Hid (Ow w w.heap.size 5 1 (.slice A2 N c2) N (rowsV f8 X) w5) := Lib.hid ⟨HOa.out.own.kept hg5 (.inr (Ne.symm (own_ne_map HOa.out.own HMa.out))), HBa.out.grown hg5 HBa.out.size (fun kk e => by obtain rfl := Option.some.inj e; exact Hlo.out), Nat.le_refl _, Nat.le_trans HBa.out.size hg5.size⟩
      clear hm5 hg5 HMa HXa HEa HOa HBa
      have d0 := HE5.out.cell (i := 0) rfl
      have d1 := HE5.out.cell (i := 1) rfl
      have d2 := HE5.out.cell (i := 2) rfl
      have d3 := HE5.out.cell (i := 3) rfl
      have hbd := rest_len Hrs.out HP4.out
      rw [List.length_append, HXX.out.1] at hbd
      have hXl := HXX.out.1
      obtain ⟨LH, gLH⟩ : ∃ z, headB (e1, e2) el et = z := ⟨_, rfl⟩
      have HC := Lib.hid (fun W => gLH ▸ head_any e1 e2 el et W (by have := Hsz.out; omega))
      replace Hrs : RowKit.Hid (X ++ LH ++ restE Es Us (i + 1) = P) := Lib.hid (by rw [← gLH]; exact Hrs.out)
      replace hbd : N + LH.length ≤ 4000 := by
        have h9 : N + (headB (e1, e2) el et).length + (restE Es Us (i + 1)).length ≤ 4000 := hbd
        rw [← gLH]
        omega
      clear gLH
      go_wp2_with (first
        | (go_at_call 15
           refine (HC.out _).mono ?_
           rintro e w6 ⟨A6, c6, rfl, hr6, -, -, hb6⟩
           have HX6 := Lib.hid (HX5.out.bl hb6)
           have HM6 := Lib.hid (HM5.out.bl hb6)
           have HO6 := Lib.hid (Ow.up HO5.out hb6)
           obtain ⟨A7, c7, w7, hrun, ho7, hg7⟩ := app8 27 HO6.out hr6 (by omega)
           have HX7 := Lib.hid (HX6.out.grown hg7 (own_ne HO6.out.own HX6.out (by decide)))
           have HM7 : RowKit.Hid (EndsM w7 bm (i + 1) (plM Es (i + 1))) := Lib.hid (MapF.grown HM6.out hg7 (own_ne_map HO6.out.own HM6.out))
           have HO7 := Lib.hid ho7
           clear hr6 hb6 ho7 hg7 d0 d1 d2 d3)
        | (at_builtin
           refine wl_run (some 44) rfl (by rfl) (exec_append (by rfl) (by rfl) (by rfl) hrun) ?_))
      go_roundw
      case rel => exact ⟨i + 1, N + LH.length, A7, c7, X ++ LH, by omega, by go_num, rfl, Lib.hid HO7.out.below, HX7, HM7, HO7, Lib.hid ⟨by rw [List.length_append, hXl], Hrs.out⟩⟩
      case measure => simp [intOf] <;> omega
    · obtain rfl : m = i := by omega
      have hrs := HXX.out.2
      unfold restE at hrs
      rw [List.drop_eq_nil_of_le (by have := Hle.out; omega), List.flatMap_nil, List.nil_append, HUl.out, show n % 256 :: restV Es Us 0 = [n % 256] ++ restV Es Us 0 from rfl, ← List.append_assoc] at hrs
      obtain ⟨n8, gn8⟩ : ∃ z, n % 256 = z := ⟨_, rfl⟩
      have hw8 : IntKind.u8.wrap (n : Int) = (n8 : Int) := by rw [IntKind.wrap_u8]; omega
      rw [gn8] at hrs
      have hXl := HXX.out.1
      have hbd := rest_len hrs HP4.out
      rw [List.length_append, hXl, List.length_singleton] at hbd
      have c0 := HX.out.cell (i := 0) rfl
      have HXa := Lib.hid (HX.out.al (.cells #[.int .u8 (n8 : Int)] 5))
      have HMa := Lib.hid (HM.out.al (.cells #[.int .u8 (n8 : Int)] 5))
      have HOa := Lib.hid (Ow.up HO.out (below1 wo (.cells #[.int .u8 (n8 : Int)] 5)))
      obtain ⟨A7, c7, w7, hrun, ho7, hg7⟩ := app8 27 HOa.out (one8 wo n8) (by omega)
      have HX7 := Lib.hid (HXa.out.grown hg7 (own_ne HOa.out.own HXa.out (by decide)))
      have HM7 : RowKit.Hid (EndsM w7 bm m (plM Es m)) := Lib.hid (MapF.grown HMa.out hg7 (own_ne_map HOa.out.own HMa.out))
      have HO7 := Lib.hid ho7
      have HX8 : RowKit.Hid ((X ++ [n8]).length = N + 1 ∧ X ++ [n8] ++ restV Es Us 0 = P) := Lib.hid ⟨by rw [List.length_append, hXl]; rfl, hrs⟩
      clear ho7 hg7 gn8 hrs hXl
      go_upto_region 13 with (first
        | (at_builtin
           refine wl_run (some 52) rfl (by rfl) (exec_append (by rfl) (by rfl) (by rfl) hrun) ?_))
      clear hrun c0 hw8 HXa HMa HOa HX HM HO HB HXX hbd
      obtain ⟨N1, gN1⟩ : ∃ z, N + 1 = z := ⟨_, rfl⟩
      rw [gN1] at HO7 HX8 ⊢
      clear gN1
      obtain ⟨X7, gX7⟩ : ∃ z, X ++ [n8] = z := ⟨_, rfl⟩
      rw [gX7] at HO7 HX8
      clear gX7
      have c0 := HX7.out.cell (i := 0) rfl
      go_wp2
      clear c0
      go_loopw [5, 56] (fun v si wr => ∃ (j N : Nat) (A2 : Option Addr) (c2 : Nat) (X : List Nat), j ≤ n ∧ si = .int .i64 j ∧ v = .slice A2 N c2 ∧ RowKit.Hid (Whole wr b0 25 [.slice A n c, .slice B m k]) ∧ RowKit.Hid (EndsM wr bm m (plM Es m)) ∧ RowKit.Hid (Ow w w.heap.size 5 1 (.slice A2 N c2) N (rowsV f8 X) wr) ∧ RowKit.Hid (X.length = N ∧ X ++ restV Es Us j = P)) (fun _ si _ => n - (intOf si).toNat)
      case atStart => exact ⟨0, N1, A7, c7, X7, by omega, rfl, rfl, HX7, HM7, HO7, HX8⟩
      case round =>
        clear HX7 HM7 HO7 HX8
        obtain ⟨j, N, A2, c2, X, hj_, rfl, rfl, HX, HM, HO, HXX⟩ := hrel
        obtain ⟨wo, gwo⟩ : ∃ z, wr = z := ⟨_, rfl⟩
        rw [gwo] at HX HM HO ⊢
        clear gwo
        by_cases hjn : j < n
        · obtain ⟨v, hx⟩ : ∃ v, Vs[j]? = some v := ⟨_, List.getElem?_eq_getElem (by have := Hlv.out; omega)⟩
          have hvm := List.mem_of_getElem? hx
          have hsz := HF.out.size.2 v hvm
          have hrg := HR.out v hvm
          have hr8 := HF.out.ring v hvm
          have hwd := HGd.out.v v hvm
          have hpl : ∀ d ∈ v.2.1.2.2.2, plM Es m (d.1, d.2.1) = some (plE Es (d.1, d.2.1)) ∧ plE Es (d.1, d.2.1) < m ∧ (d.2.2 = 0 ∨ d.2.2 = 1) := fun d hd => by
            obtain ⟨e, he, q1, q2⟩ := HF.out.of_dart hvm hd
            have h1 := plM_all HF.out hvm hd
            have h2 := plE_lt HF.out hvm hd
            rw [Hle.out] at h1 h2
            exact ⟨h1, h2, q2⟩
          have hrs := HXX.out.2
          rw [restV_next (v := vS v) (by rw [← HUs.out, List.getElem?_map, hx]; rfl), ← List.append_assoc, ← List.append_assoc] at hrs
          obtain ⟨eb, eo, gA, -, -⟩ := HV.out.place vC_len (by decide) (by omega)
          subst gA
          have hel := (HV.out.up HO.out.below HO.out.below.size).elem vC_len hx
          have l0 := hel 0 _ rfl
          have l1 := hel 1 _ rfl
          have l2 := hel 2 _ rfl
          have l3 := hel 3 _ rfl
          have l4 := hel 4 _ rfl
          simp only [Addr.add_lit, Nat.add_zero] at l0 l1 l2 l3 l4
          obtain ⟨⟨i1, i2⟩, ⟨rA, rn, rc, rL⟩, lb, at_⟩ := v
          have Hsz : RowKit.Hid (lb.size ≤ 16) := Lib.hid hsz
          have HRr : RowKit.Hid (RdS w w.heap.size 3 rA rn rc (dartsV rL)) := Lib.hid hrg.2
          have Hwd : RowKit.Hid (∀ d ∈ rL, wfD d) := Lib.hid hwd
          have Hpl : RowKit.Hid (∀ d ∈ rL, plM Es m (d.1, d.2.1) = some (plE Es (d.1, d.2.1)) ∧ plE Es (d.1, d.2.1) < m ∧ (d.2.2 = 0 ∨ d.2.2 = 1)) := Lib.hid hpl
          have hrl : rL.length = rn := HRr.out.dlen
          have Hrl := Lib.hid hrl
          have hr9 : rn ≤ 80 := by rw [← hrl]; exact hr8
          replace hrs : X ++ headB (i1, i2) lb at_ ++ [rL.length % 256] ++ ((rL.drop 0).map (dB Es) ++ restV Es Us (j + 1)) = P := hrs
          rw [hrl] at hrs
          obtain ⟨LH, gLH⟩ : ∃ z, headB (i1, i2) lb at_ = z := ⟨_, rfl⟩
          have HC := Lib.hid (fun W => gLH ▸ head_any i1 i2 lb at_ W (by have := Hsz.out; omega))
          obtain ⟨r8, gr8⟩ : ∃ z, rn % 256 = z := ⟨_, rfl⟩
          have hw8 : IntKind.u8.wrap (rn : Int) = (r8 : Int) := by rw [IntKind.wrap_u8]; omega
          rw [gLH, gr8] at hrs
          have hXl := HXX.out.1
          have hbd := rest_len hrs HP4.out
          rw [List.length_append, List.length_append, hXl, List.length_singleton] at hbd
          have hb1 : N + LH.length ≤ 4000 := by omega
          have hb2 : N + LH.length + 1 ≤ 4000 := by omega
          have Hrs := Lib.hid hrs
          clear hel hsz hwd hrs hx hvm hrg hr8 hpl hrl gLH gr8 hbd
          go_upto_region 16 with fail
          clear l0 l1 l2 l3 l4
          have HOa := Lib.hid (Ow.up HO.out (below1 wo (.cells #[.int .i64 i1, .int .i64 i2, .slice rA rn rc, .string lb, .int .i64 at_] 47)))
          have HXa := Lib.hid (HX.out.al (.cells #[.int .i64 i1, .int .i64 i2, .slice rA rn rc, .string lb, .int .i64 at_] 47))
          have HMa := Lib.hid (HM.out.al (.cells #[.int .i64 i1, .int .i64 i2, .slice rA rn rc, .string lb, .int .i64 at_] 47))
          have HVa := Lib.hid (Whole.new2 (w := wo) (t := 47) (cs := [.int .i64 i1, .int .i64 i2, .slice rA rn rc, .string lb, .int .i64 at_]) rfl)
          obtain ⟨wa, gwa⟩ : ∃ z, wo.alloc (.cells #[.int .i64 i1, .int .i64 i2, .slice rA rn rc, .string lb, .int .i64 at_] 47) = z := ⟨_, rfl⟩
          obtain ⟨b10, gb10⟩ : ∃ z, wo.heap.size = z := ⟨_, rfl⟩
          rw [gwa] at HOa HXa HMa HVa ⊢
          rw [gb10] at HVa ⊢
          clear gwa gb10 HO HX HM
          have d0 := HVa.out.cell (i := 0) rfl
          have d1 := HVa.out.cell (i := 1) rfl
          have d3 := HVa.out.cell (i := 3) rfl
          have d4 := HVa.out.cell (i := 4) rfl
          go_upto_region 17 with (first
            | (go_at_call 15
               refine (HC.out _).mono ?_
               rintro e w6 ⟨A6, c6, rfl, hr6, -, -, hb6⟩
               have HX6 := Lib.hid (HXa.out.bl hb6)
               have HM6 := Lib.hid (HMa.out.bl hb6)
               have HV6 := Lib.hid (HVa.out.bl hb6)
               have HO6 := Lib.hid (Ow.up HOa.out hb6)
               obtain ⟨A7, c7, w7, hrun, ho7, hg7⟩ := app8 27 HO6.out hr6 (by omega)
               have HX7 := Lib.hid (HX6.out.grown hg7 (own_ne HO6.out.own HX6.out (by decide)))
               have HV7 := Lib.hid (HV6.out.grown hg7 (own_ne HO6.out.own HV6.out (by decide)))
               have HM7 : RowKit.Hid (EndsM w7 bm m (plM Es m)) := Lib.hid (MapF.grown HM6.out hg7 (own_ne_map HO6.out.own HM6.out))
               have HO7 := Lib.hid ho7
               clear hr6 hb6 ho7 hg7 d0 d1 d3 d4)
            | (at_builtin
               refine wl_run (some 68) rfl (by rfl) (exec_append (by rfl) (by rfl) (by rfl) hrun) ?_))
          clear hrun HX6 HM6 HV6 HO6 HXa HMa HVa HOa
          have d2 := HV7.out.cell (i := 2) rfl
          have HXb := Lib.hid (HX7.out.al (.cells #[.int .u8 (r8 : Int)] 5))
          have HMb := Lib.hid (HM7.out.al (.cells #[.int .u8 (r8 : Int)] 5))
          have HVb := Lib.hid (HV7.out.al (.cells #[.int .u8 (r8 : Int)] 5))
          have HOb := Lib.hid (Ow.up HO7.out (below1 w7 (.cells #[.int .u8 (r8 : Int)] 5)))
          obtain ⟨A8, c8, w8, hrun, ho8, hg8⟩ := app8 27 HOb.out (one8 w7 r8) (by omega)
          have HX8 := Lib.hid (HXb.out.grown hg8 (own_ne HOb.out.own HXb.out (by decide)))
          have HV8 := Lib.hid (HVb.out.grown hg8 (own_ne HOb.out.own HVb.out (by decide)))
          have HM8 : RowKit.Hid (EndsM w8 bm m (plM Es m)) := Lib.hid (MapF.grown HMb.out hg8 (own_ne_map HOb.out.own HMb.out))
          have HO8 := Lib.hid ho8
          have HX9 : RowKit.Hid ((X ++ LH ++ [r8]).length = N + LH.length + 1 ∧ X ++ LH ++ [r8] ++ ((rL.drop 0).map (dB Es) ++ restV Es Us (j + 1)) = P) := Lib.hid ⟨by rw [List.length_append, List.length_append, hXl]; rfl, Hrs.out⟩
          clear ho8 hg8
          go_upto_region 18 with (first
            | (at_builtin
               refine wl_run (some 75) rfl (by rfl) (exec_append (by rfl) (by rfl) (by rfl) hrun) ?_))
          clear hrun d2 hw8 HXb HMb HVb HOb HX7 HM7 HV7 HO7 hXl HXX hb1 hb2 Hrs HC
          obtain ⟨N8, gN8⟩ : ∃ z, N + LH.length + 1 = z := ⟨_, rfl⟩
          rw [gN8] at HO8 HX9 ⊢
          clear gN8
          obtain ⟨X8, gX8⟩ : ∃ z, X ++ LH ++ [r8] = z := ⟨_, rfl⟩
          rw [gX8] at HO8 HX9
          clear gX8
          obtain ⟨R9, gR9⟩ : ∃ z, restV Es Us (j + 1) = z := ⟨_, rfl⟩
          rw [gR9] at HX9
          have HR9 := Lib.hid gR9
          clear gR9
          have d2 := HV8.out.cell (i := 2) rfl
          go_wp2
          clear d2 HV8
          go_loopw [5, 79] (fun v si wr => ∃ (t N : Nat) (A2 : Option Addr) (c2 : Nat) (X : List Nat), t ≤ rn ∧ si = .int .i64 t ∧ v = .slice A2 N c2 ∧ RowKit.Hid (Whole wr b0 25 [.slice (some ⟨eb, eo, none⟩) n c, .slice B m k]) ∧ RowKit.Hid (EndsM wr bm m (plM Es m)) ∧ RowKit.Hid (Ow w w.heap.size 5 1 (.slice A2 N c2) N (rowsV f8 X) wr) ∧ RowKit.Hid (X.length = N ∧ X ++ ((rL.drop t).map (dB Es) ++ R9) = P)) (fun _ si _ => rn - (intOf si).toNat)
          case atStart => exact ⟨0, N8, A8, c8, X8, by omega, rfl, rfl, HX8, HM8, HO8, HX9⟩
          case round =>
            clear HX8 HM8 HO8 HX9
            obtain ⟨t, N, A2, c2, X, ht_, rfl, rfl, HX, HM, HO, HXX⟩ := hrel
            obtain ⟨wi, gwi⟩ : ∃ z, wr = z := ⟨_, rfl⟩
            rw [gwi] at HX HM HO ⊢
            clear gwi
            by_cases htn : t < rn
            · obtain ⟨d, hx⟩ : ∃ d, rL[t]? = some d := ⟨_, List.getElem?_eq_getElem (by have := Hrl.out; omega)⟩
              obtain ⟨hp1, hp2, hp3⟩ := Hpl.out d (List.mem_of_getElem? hx)
              have hwd := Hwd.out d (List.mem_of_getElem? hx)
              have hrs := HXX.out.2
              have hdr : rL.drop t = d :: rL.drop (t + 1) := by
                rw [List.drop_eq_getElem_cons (List.getElem?_eq_some_iff.1 hx).1, (List.getElem?_eq_some_iff.1 hx).2]
              rw [hdr, List.map_cons, List.cons_append, show ∀ (a : Nat) (l : List Nat), a :: l = [a] ++ l from fun _ _ => rfl, ← List.append_assoc] at hrs
              obtain ⟨rb, ro, gr, -, hcd⟩ := (HRr.out.up HO.out.below HO.out.below.size).darts (by omega)
              subst gr
              have hjl : t < rL.length := by have := Hrl.out; omega
              obtain ⟨l0, l1, l2⟩ := hcd t hjl
              have hgd : rL.getD t (0, 0, 0) = d := by rw [List.getD_eq_getElem?_getD, hx]; rfl
              rw [hgd] at l0 l1 l2
              obtain ⟨d1, d2, d3⟩ := d
              simp only at hp1 hp2 hp3 l0 l1 l2
              obtain ⟨p, gp⟩ : ∃ z, plE Es (d1, d2) = z := ⟨_, rfl⟩
              have hdb : dB Es (d1, d2, d3) = (p + 128 * d3.toNat) % 256 := by unfold dB; rw [gp]
              rw [gp] at hp1 hp2
              obtain ⟨db, gdb⟩ : ∃ z, dB Es (d1, d2, d3) = z := ⟨_, rfl⟩
              rw [gdb] at hrs hdb
              obtain ⟨x1, hw1⟩ : ∃ z, IntKind.i64.wrap (128 * d3) = z := ⟨_, rfl⟩
              have hx1 : x1 = 128 * d3 := by rw [← hw1]; exact IntWalk.i64_in _ (by omega)
              obtain ⟨x2, hw2⟩ : ∃ z, IntKind.i64.wrap ((p : Int) + x1) = z := ⟨_, rfl⟩
              have hx2 : x2 = (p : Int) + 128 * d3 := by rw [← hw2, hx1]; exact IntWalk.i64_in _ (by omega)
              have hw3 : IntKind.u8.wrap x2 = (db : Int) := by rw [hx2, hdb, IntKind.wrap_u8]; omega
              have hXl := HXX.out.1
              have hbd := rest_len hrs HP4.out
              rw [List.length_append, hXl, List.length_singleton] at hbd
              have hb1 : N + 1 ≤ 4000 := by omega
              have Hrs := Lib.hid hrs
              have Hp1 := Lib.hid hp1
              have Hwf : RowKit.Hid (wfI (d1, d2)) := Lib.hid ⟨hwd.1, hwd.2.1⟩
              clear hx hp1 hp3 hwd hrs hdr hcd hjl hgd gp hdb gdb hx1 hx2 hbd
              go_upto_region 21 with fail
              clear l0 l1 l2
              have HOa := Lib.hid (Ow.up HO.out (below1 wi (.cells #[.int .i64 d1, .int .i64 d2, .int .i64 d3] 49)))
              have HXa := Lib.hid (HX.out.al (.cells #[.int .i64 d1, .int .i64 d2, .int .i64 d3] 49))
              have HMa := Lib.hid (HM.out.al (.cells #[.int .i64 d1, .int .i64 d2, .int .i64 d3] 49))
              have HDa := Lib.hid (Whole.new2 (w := wi) (t := 49) (cs := [.int .i64 d1, .int .i64 d2, .int .i64 d3]) rfl)
              obtain ⟨wa, gwa⟩ : ∃ z, wi.alloc (.cells #[.int .i64 d1, .int .i64 d2, .int .i64 d3] 49) = z := ⟨_, rfl⟩
              obtain ⟨b12, gb12⟩ : ∃ z, wi.heap.size = z := ⟨_, rfl⟩
              rw [gwa] at HOa HXa HMa HDa ⊢
              rw [gb12] at HDa ⊢
              clear gwa gb12 HO HX HM
              have Hs1 : RowKit.Hid (¬ (some b12 = (Value.slice A2 N c2).ownBlock ∨ wa.heap.size ≤ b12)) := Lib.hid (fun e => by rcases e with e | e; exact own_ne HOa.out.own HDa.out (by decide) e; exact absurd HDa.out.lt (by omega))
              have Hs2 : RowKit.Hid (¬ (some bm = (Value.slice A2 N c2).ownBlock ∨ wa.heap.size ≤ bm)) := Lib.hid (fun e => by rcases e with e | e; exact own_ne_map HOa.out.own HMa.out e; exact absurd HMa.out.lt (by omega))
              have ld0 : ∀ w', Kept (fun i => some i = (Value.slice A2 N c2).ownBlock ∨ wa.heap.size ≤ i) wa.drew w' → w'.cell? ⟨b12, 0, none⟩ = some (.int .i64 d1) := fun w' h => h.cell (HDa.out.dr.cell (i := 0) rfl) Hs1.out
              have ld1 : ∀ w', Kept (fun i => some i = (Value.slice A2 N c2).ownBlock ∨ wa.heap.size ≤ i) wa.drew w' → w'.cell? ⟨b12, 1, none⟩ = some (.int .i64 d2) := fun w' h => h.cell (HDa.out.dr.cell (i := 1) rfl) Hs1.out
              have ld2 : ∀ w', Kept (fun i => some i = (Value.slice A2 N c2).ownBlock ∨ wa.heap.size ≤ i) wa.drew w' → w'.cell? ⟨b12, 2, none⟩ = some (.int .i64 d3) := fun w' h => h.cell (HDa.out.dr.cell (i := 2) rfl) Hs1.out
              have HDr : RowKit.Hid (Ext wa wa.drew) := Lib.hid (below_drewN wa.heap.size wa 1)
              refine wp_region_reg (fun i => some i = (Value.slice A2 N c2).ownBlock ∨ wa.heap.size ≤ i) (by kernel_rfl) ?_
              apply wpR_next 0 (some 83)
              · simp only [List.getElem?_toArray, List.getElem?_cons_succ, List.getElem?_cons_zero]; exact rfl
              · rfl
              · kernel_rfl
              · kernel_rfl
              · kernel_rfl
              · exact fun _ _ _ _ h => h
              apply Exists.intro
              apply And.intro
              · apply yr_run; rfl; intro w' hw'; go_simp; (try with_reducible rfl)
              simp only [Act.put, List.setIfInBounds_toArray, List.set_cons_zero, List.set_cons_succ]
              apply wpR_next 1 (some 84)
              · simp only [List.getElem?_toArray, List.getElem?_cons_succ, List.getElem?_cons_zero]; exact rfl
              · rfl
              · kernel_rfl
              · kernel_rfl
              · kernel_rfl
              · exact fun _ _ _ _ h => h
              apply Exists.intro
              apply And.intro
              · apply yr_run; rfl; intro w' hw'; go_simp; (try with_reducible rfl)
              simp only [Act.put, List.setIfInBounds_toArray, List.set_cons_zero, List.set_cons_succ]
              apply wpR_next 2 (some 85)
              · simp only [List.getElem?_toArray, List.getElem?_cons_succ, List.getElem?_cons_zero]; exact rfl
              · rfl
              · kernel_rfl
              · kernel_rfl
              · kernel_rfl
              · exact fun _ _ _ _ h => h
              apply Exists.intro
              apply And.intro
              · apply yr_run; rfl; intro w' hw'; go_simp; (try with_reducible rfl)
              simp only [Act.put, List.setIfInBounds_toArray, List.set_cons_zero, List.set_cons_succ]
              apply wpR_next 3 (some 86)
              · simp only [List.getElem?_toArray, List.getElem?_cons_succ, List.getElem?_cons_zero]; exact rfl
              · rfl
              · kernel_rfl
              · kernel_rfl
              · kernel_rfl
              · exact fun _ _ _ _ h => h
              apply Exists.intro
              apply And.intro
              · apply yr_run; rfl; intro w' hw'; go_simp; (try with_reducible rfl)
              simp only [Act.put, List.setIfInBounds_toArray, List.set_cons_zero, List.set_cons_succ]
              apply wpR_next 4 (some 87)
              · simp only [List.getElem?_toArray, List.getElem?_cons_succ, List.getElem?_cons_zero]; exact rfl
              · rfl
              · kernel_rfl
              · kernel_rfl
              · kernel_rfl
              · exact fun _ _ _ _ h => h
              apply Exists.intro
              apply And.intro
              · apply yr_run; rfl; intro w' hw'; exact exec_mapGet rfl rfl rfl (ends_get (EndsM.kept HMa.out.dr hw' Hs2.out) Hwf.out Hp1.out)
              simp only [Act.put, List.setIfInBounds_toArray, List.set_cons_zero, List.set_cons_succ]
              apply wpR_next 5 (some 88)
              · simp only [List.getElem?_toArray, List.getElem?_cons_succ, List.getElem?_cons_zero]; exact rfl
              · rfl
              · kernel_rfl
              · kernel_rfl
              · kernel_rfl
              · exact fun _ _ _ _ h => h
              apply Exists.intro
              apply And.intro
              · apply yr_run; rfl; intro w' hw'; go_simp; (try with_reducible rfl)
              simp only [Act.put, List.setIfInBounds_toArray, List.set_cons_zero, List.set_cons_succ]
              apply wpR_next 6 (some 89)
              · simp only [List.getElem?_toArray, List.getElem?_cons_succ, List.getElem?_cons_zero]; exact rfl
              · rfl
              · kernel_rfl
              · kernel_rfl
              · kernel_rfl
              · exact fun _ _ _ _ h => h
              apply Exists.intro
              apply And.intro
              · apply yr_run; rfl; intro w' hw'; go_simp; (try with_reducible rfl)
              simp only [Act.put, List.setIfInBounds_toArray, List.set_cons_zero, List.set_cons_succ]
              apply wpR_next 7 (some 90)
              · simp only [List.getElem?_toArray, List.getElem?_cons_succ, List.getElem?_cons_zero]; exact rfl
              · rfl
              · kernel_rfl
              · kernel_rfl
              · kernel_rfl
              · exact fun _ _ _ _ h => h
              apply Exists.intro
              apply And.intro
              · apply yr_run; rfl; intro w' hw'; go_simp; (try with_reducible rfl)
              simp only [Act.put, List.setIfInBounds_toArray, List.set_cons_zero, List.set_cons_succ]
              apply wpR_next 8 (some 91)
              · simp only [List.getElem?_toArray, List.getElem?_cons_succ, List.getElem?_cons_zero]; exact rfl
              · rfl
              · kernel_rfl
              · kernel_rfl
              · kernel_rfl
              · exact fun _ _ _ _ h => h
              apply Exists.intro
              apply And.intro
              · apply yr_run; rfl; intro w' hw'; go_simp; (try with_reducible rfl)
              simp only [Act.put, List.setIfInBounds_toArray, List.set_cons_zero, List.set_cons_succ]
              apply wpR_next 9 (some 92)
              · simp only [List.getElem?_toArray, List.getElem?_cons_succ, List.getElem?_cons_zero]; exact rfl
              · rfl
              · kernel_rfl
              · kernel_rfl
              · kernel_rfl
              · exact fun _ _ _ _ h => h
              apply Exists.intro
              apply And.intro
              · apply yr_run; rfl; intro w' hw'; go_simp; (try with_reducible rfl)
              simp only [Act.put, List.setIfInBounds_toArray, List.set_cons_zero, List.set_cons_succ]
              apply wpR_run 10 (some 93)
              · simp only [List.getElem?_toArray, List.getElem?_cons_succ, List.getElem?_cons_zero]; exact rfl
              · rfl
              · kernel_rfl
              · rfl
              intro w' hw'
              refine ⟨.slice (some ⟨w'.heap.size, 0, none⟩) 1 1, w'.alloc (.cells #[.int .u8 (db : Int)] 5), by (go_simp; first | done | exact rfl | exact ⟨rfl, rfl⟩), Kept.of_below (below1 _ _), ?_⟩
              have hE0 := Ext.trans HDr.out hw'
              have HXb := Lib.hid ((HXa.out.bl hE0).al (.cells #[.int .u8 (db : Int)] 5))
              have HMb := Lib.hid ((HMa.out.bl hE0).al (.cells #[.int .u8 (db : Int)] 5))
              have HOb := Lib.hid (Ow.up (Ow.up HOa.out hE0) (below1 w' (.cells #[.int .u8 (db : Int)] 5)))
              have HSb := Lib.hid (one8 w' db)
              obtain ⟨wb, gwb⟩ : ∃ z, w'.alloc (.cells #[.int .u8 (db : Int)] 5) = z := ⟨_, rfl⟩
              obtain ⟨ab, gab⟩ : ∃ z, w'.heap.size = z := ⟨_, rfl⟩
              rw [gwb] at HXb HMb HOb HSb ⊢
              rw [gab] at HSb ⊢
              clear gwb gab hE0 hw' HXa HMa HOa ld0 ld1 ld2
              simp only [Act.put, List.setIfInBounds_toArray, List.set_cons_zero, List.set_cons_succ]
              apply wpR_run 11 (some 94)
              · simp only [List.getElem?_toArray, List.getElem?_cons_succ, List.getElem?_cons_zero]; exact rfl
              · rfl
              · kernel_rfl
              · rfl
              intro w' hw'
              obtain ⟨A7, c7, w7, hrun, ho7, hg7⟩ := app8 27 (Ow.up HOb.out hw') (HSb.out.bl hw') (by omega)
              refine ⟨_, w7, exec_append (by rfl) (by rfl) (by rfl) hrun, kept_own hg7 (fun i e => .inl e), ?_⟩
              have HX7 := Lib.hid ((HXb.out.bl hw').grown hg7 (own_ne (own_up HOb.out.own hw') (HXb.out.bl hw') (by decide)))
              have HM7 : RowKit.Hid (EndsM w7 bm m (plM Es m)) := Lib.hid (MapF.grown (HMb.out.bl hw') hg7 (own_ne_map (own_up HOb.out.own hw') (HMb.out.bl hw')))
              have HO7 := Lib.hid ho7
              clear hrun ho7 hg7 hw' HXb HMb HOb HSb
              simp only [Act.put, List.setIfInBounds_toArray, List.set_cons_zero, List.set_cons_succ]
              apply wpR_next 12 (some 5)
              · simp only [List.getElem?_toArray, List.getElem?_cons_succ, List.getElem?_cons_zero]; exact rfl
              · rfl
              · kernel_rfl
              · kernel_rfl
              · kernel_rfl
              · exact fun _ _ _ _ h => h
              apply Exists.intro
              apply And.intro
              · apply yr_run; rfl; intro w' hw'; go_simp; (try with_reducible rfl)
              simp only [Act.put, List.setIfInBounds_toArray, List.set_cons_zero, List.set_cons_succ]
              refine wpR_done (by kernel_rfl) ?_ _
              intro w9 hw9
              have HX9 := Lib.hid (HX7.out.bl hw9)
              have HM9 := Lib.hid (HM7.out.bl hw9)
              have HO9 := Lib.hid (Ow.up HO7.out hw9)
              clear hw9 HX7 HM7 HO7
              go_wp2
              go_roundw
              case rel => exact ⟨t + 1, N + 1, A7, c7, X ++ [db], by omega, by go_num, rfl, HX9, HM9, HO9, Lib.hid ⟨by rw [List.length_append, hXl]; rfl, Hrs.out⟩⟩
              case measure => simp [intOf] <;> omega
            · obtain rfl : rn = t := by omega
              have hrs := HXX.out.2
              rw [List.drop_eq_nil_of_le (by have := Hrl.out; omega), List.map_nil, List.nil_append, ← HR9.out] at hrs
              go_wp2
              go_roundw
              case rel => exact ⟨j + 1, N, A2, c2, X, by omega, by go_num, rfl, HX, HM, HO, Lib.hid ⟨HXX.out.1, hrs⟩⟩
              case measure => simp [intOf] <;> omega
        · obtain rfl : n = j := by omega
          have hrs := HXX.out.2
          unfold restV at hrs
          rw [List.drop_eq_nil_of_le (by have := HUl.out; omega), List.flatMap_nil, List.append_nil] at hrs
          obtain rfl := hrs
          obtain rfl : X.length = N := HXX.out.1
          go_wp2
          exact bodyPost_ret (v := .tuple #[.slice A2 X.length c2, .int .i64 0]) (by simp [results, Tryz.results6, go_sem]) rfl ⟨A2, c2, rfl, HO.out.own, HO.out.below⟩
end Go.Proofs.YtahbfdhjgnlmdaaGreat

/- The laws' types of layer 8: bytes. -/
namespace Go.Proofs.YtahbfdhjgnlmdaaGreat
open Go.ChangeShapes Go.WideShapes Go.ChangeAt Go.RowKit

theorem row1_byte (H : Type) : Row1 H Tryz.prog 5 f8 (fun _ b => b < 256) := by
  intro enc w held fuel cs x h
  obtain ⟨n, rfl, _, hw⟩ := DataW.trod_int Tryz.underlying5 h
  have hb := bounds_u8 hw
  refine ⟨n.toNat, ?_, by omega⟩
  have e : ((n.toNat : Nat) : Int) = n := by omega
  simp [f8, e]
theorem in64_of {x : Int} (h : (Lit.int .i64 x).wf = true) : In64 x := by
  have := bounds_i64 h
  unfold In64
  omega
end Go.Proofs.YtahbfdhjgnlmdaaGreat

/- The document's example of layer 8. -/
namespace Go.Proofs.YtahbfdhjgnlmdaaGreat
open Go.RowKit
set_option linter.unusedSimpArgs false
set_option linter.unusedVariables false

theorem may7_nil : mayF7 [] [] = 0 := by
  unfold mayF7
  rw [if_pos ((form0 [] []).2 tw0_formed), tw0_gen]
  rfl
theorem put_nil : putD (([] : List VC).map vS) [] = [0, 0] := rfl
set_option maxRecDepth 100000 in
set_option maxHeartbeats 1000000 in
theorem shown08_any (w : World) : Calls Tryz.prog 5 #[] w fun e w' => e = .returned (.bool true) ∧ Below w.heap.size w w' := by
  have HP := Lib.hid (fun W => put_yes none 0 0 [] none 0 0 [] W ⟨RdS.no _ _ _, RdS.no _ _ _, fun x hx => (by cases hx)⟩ tw0_good (fun x hx => (by cases hx)) may7_nil)
  rw [put_nil] at HP
  have HN := Lib.hid (fun W => num_any none 0 [] 1 W (rds_nil W W.heap.size 1) (by simp))
  have hl : ([] ++ be8 1).length = 8 := by rw [List.nil_append, be8_len]
  obtain ⟨L, gL⟩ : ∃ z, [] ++ be8 1 = z := ⟨_, rfl⟩
  rw [gL] at HN hl
  have Hl := Lib.hid hl
  obtain ⟨Q, gQ⟩ : ∃ z, ([0, 0] : List Nat) = z := ⟨_, rfl⟩
  have hq : Q.length = 2 := by rw [← gQ]; rfl
  rw [gQ, hq] at HP
  have htx : txt Q = { data := #[0, 0] } := by rw [← gQ]; rfl
  have Htx := Lib.hid htx
  clear gL hl gQ hq htx
  go_enter Tryz.func5, Tryz.ntmps5
  go_upto_region 2 with (first
    | (go_at_call 6
       refine (HP.out _).mono ?_
       rintro e w2 ⟨A2, c2, rfl, ho2, hb2⟩
       have HR2 := Lib.hid (own_rds ho2)
       have HB2 := Lib.hid hb2
       clear ho2 hb2))
  have hcv := conv_txt HR2.out
  rw [Htx.out] at hcv
  go_wp2_with (first
    | (go_at_call 13
       refine (HN.out _).mono ?_
       rintro e w3 ⟨A3, c3, rfl, hr3, -, -, hb3⟩
       have HB3 : RowKit.Hid (Below w.heap.size w w3) := Lib.hid (Ext.trans HB2.out hb3)
       rw [Hl.out] at hr3 ⊢
       clear hr3 hb3 hcv))
  go_ret
  exact ⟨by first | rfl | simp, HB3.out⟩

end Go.Proofs.YtahbfdhjgnlmdaaGreat

/- few of stage 8: the same as stage 7's. -/
namespace Go.Proofs.YtahbfdhjgnlmdaaGreat
open Go.RowKit
set_option linter.unusedSimpArgs false
set_option linter.unusedVariables false

set_option maxRecDepth 100000 in
set_option maxHeartbeats 4000000 in
theorem few8_any (A : Option Addr) (n c : Nat) (Vs : List VC) (B : Option Addr) (m k : Nat) (Es : List EC) (w : World) (h : DgIn w A n c Vs B m k Es) (hn : n ≤ maxLen) (hm : m ≤ maxLen) :
    Calls Tryz.prog 7 #[.agg #[.slice A n c, .slice B m k]] w fun e w' => ∃ A' c' B' k', e = .returned (.agg #[.slice A' (Vs.take 26).length c', .slice B' (Es.take 42).length k']) ∧
      DgIn w' A' (Vs.take 26).length c' ((Vs.take 26).map few7V) B' (Es.take 42).length k' (Es.take 42) ∧ Below w.heap.size w w' ∧ FwNew w A' (Vs.take 26).length c' B' (Es.take 42).length k' := by
  have HV := Lib.hid h.v
  have HE := Lib.hid h.e
  have HRg := Lib.hid h.r
  have Hlv := Lib.hid (h.v.rlen vC_len (by decide))
  have Hle := Lib.hid (h.e.rlen eC_len (by decide))
  obtain ⟨i0, hi, hz0, hz1, hz2⟩ := info_partsD info_vertex
  obtain ⟨i1, hi1, hz01, hz11, hz21⟩ := info_partsD info_edge
  unfold maxLen at hn hm
  clear h
  go_enter Tryz.func7, Tryz.ntmps7
  go_wp2
  have hx0 := ((Whole.new_ w 25 [.slice A n c, .slice B m k]).alloc (.cells #[.slice none 0 0, .slice none 0 0] 25)).alloc (.cells #[.slice none 0 0, .slice none 0 0] 25)
  have hx1 : Whole _ (w.heap.size + 1) 25 [.slice none 0 0, .slice none 0 0] := (Whole.new2 (w := w.alloc (.cells #[.slice A n c, .slice B m k] 25)) (by simp)).alloc (.cells #[.slice none 0 0, .slice none 0 0] 25)
  have hx2 : Whole _ (w.heap.size + 1 + 1) 25 [.slice none 0 0, .slice none 0 0] := Whole.new2 (w := (w.alloc (.cells #[.slice A n c, .slice B m k] 25)).alloc (.cells #[.slice none 0 0, .slice none 0 0] 25)) (by simp)
  have hbl := bel_al (bel_al (below1 w (.cells #[.slice A n c, .slice B m k] 25)) (.cells #[.slice none 0 0, .slice none 0 0] 25)) (.cells #[.slice none 0 0, .slice none 0 0] 25)
  obtain ⟨W0, gW0⟩ : ∃ z, ((w.alloc (.cells #[.slice A n c, .slice B m k] 25)).alloc (.cells #[.slice none 0 0, .slice none 0 0] 25)).alloc (.cells #[.slice none 0 0, .slice none 0 0] 25) = z := ⟨_, rfl⟩
  have hsz : w.heap.size + 1 + 1 + 1 ≤ W0.heap.size := by rw [← gW0]; simp
  have hx0' : Whole W0 w.heap.size 25 [.slice A n c, .slice B m k] := by rw [← gW0]; exact hx0
  have hx1' : Whole W0 (w.heap.size + 1) 25 [.slice none 0 0, .slice none 0 0] := by rw [← gW0]; exact hx1
  have hx2' : Whole W0 (w.heap.size + 1 + 1) 25 [.slice none 0 0, .slice none 0 0] := by rw [← gW0]; exact hx2
  have hbl' : Below w.heap.size w W0 := by rw [← gW0]; exact hbl
  have HF0 : RowKit.Hid (Few7A w Vs A B n c m k w.heap.size (w.heap.size + 1) (w.heap.size + 1 + 1) 0 (.slice none 0 0) W0) := Lib.hid ⟨Ow.nil_ hbl' (by omega) hsz, hx0', hx1', hx2'⟩
  rw [gW0]
  obtain ⟨b2, gb2⟩ : ∃ z, w.heap.size + 1 + 1 = z := ⟨_, rfl⟩
  obtain ⟨b1, gb1⟩ : ∃ z, w.heap.size + 1 = z := ⟨_, rfl⟩
  obtain ⟨b0, gb0⟩ : ∃ z, w.heap.size = z := ⟨_, rfl⟩
  rw [gb2, gb1, gb0] at HF0
  rw [gb2, gb1, gb0]
  have Gb0 := Lib.hid gb0
  have h02 : b0 ≠ b2 := by omega
  have h12 : b1 ≠ b2 := by omega
  have h01 : b0 < b2 := by omega
  have h11 : b1 < b2 := by omega
  have hl2 : w.heap.size ≤ b2 := by omega
  have hl1 : w.heap.size ≤ b1 := by omega
  have Hl2 := Lib.hid hl2
  have Hl1 := Lib.hid hl1
  clear hx0 hx1 hx2 hbl hsz hx0' hx1' hx2' hbl' gW0 gb2 gb1 gb0 hl2 hl1
  go_loopw [4] (fun si wr => ∃ (j : Nat) (v : Value), j ≤ n ∧ j ≤ 26 ∧ si = .int .i64 j ∧ RowKit.Hid (Few7A w Vs A B n c m k b0 b1 b2 j v wr)) (fun si _ => n - (intOf si).toNat)
  case atStart => exact ⟨0, _, by omega, by omega, rfl, HF0⟩
  case round =>
    clear HF0
    obtain ⟨j, v, hj, hj30, rfl, HF⟩ := hrel
    obtain ⟨wo, gwo⟩ : ∃ z, wr = z := ⟨_, rfl⟩
    rw [gwo] at HF ⊢
    clear gwo
    have c0 := HF.out.x0.cell (i := 0) rfl
    by_cases hgo : j < n ∧ j < 26
    · obtain ⟨hjn, hj3⟩ := hgo
      obtain ⟨x, hx⟩ : ∃ x, Vs[j]? = some x := ⟨_, List.getElem?_eq_getElem (by have := Hlv.out; omega)⟩
      have Hx := Lib.hid hx
      have hxo := HRg.out x (List.mem_of_getElem? hx)
      obtain ⟨bb, off, rfl, hbB, hpl⟩ := HV.out.place vC_len (by decide) (by omega)
      have q0 := hpl j _ hx 0 _ rfl
      have q1 := hpl j _ hx 1 _ rfl
      have q2 := hpl j _ hx 2 _ rfl
      have q3 := hpl j _ hx 3 _ rfl
      have q4 := hpl j _ hx 4 _ rfl
      simp only [Addr.add_lit, Nat.add_zero] at q0 q1 q2 q3 q4
      have l0 := (HF.out.ow.below.cell (p := ⟨bb, off + j * 5, none⟩) hbB).trans q0
      have l1 := (HF.out.ow.below.cell (p := ⟨bb, off + j * 5 + 1, none⟩) hbB).trans q1
      have l2 := (HF.out.ow.below.cell (p := ⟨bb, off + j * 5 + 2, none⟩) hbB).trans q2
      have l3 := (HF.out.ow.below.cell (p := ⟨bb, off + j * 5 + 3, none⟩) hbB).trans q3
      have l4 := (HF.out.ow.below.cell (p := ⟨bb, off + j * 5 + 4, none⟩) hbB).trans q4
      obtain ⟨⟨i1, i2⟩, ⟨rA, rn, rc, rL⟩, lb, at_⟩ := x
      have hxo2 : RdS w w.heap.size 3 rA rn rc (dartsV rL) := hxo.2
      have hrc : rn ≤ rc := hxo2.le
      have hrn : rc ≤ 9223372036854775807 := hxo.1
      clear hx hpl q0 q1 q2 q3 q4 hbB
      have hgw : wo.heap.size ≠ b2 := by have := HF.out.x2.lt; omega
      have hgw0 : b0 ≠ wo.heap.size := by have := HF.out.x0.lt; omega
      have hgw1 : b1 ≠ wo.heap.size := by have := HF.out.x1.lt; omega
      by_cases h30 : 82 < rn
      · obtain ⟨ra, rfl⟩ : ∃ ra, rA = some ra := by
          cases rA with
          | none => have := (hxo2.none_ rfl).1; omega
          | some ra => exact ⟨ra, rfl⟩
        have hfv : few7V ((i1, i2), (some ra, rn, rc, rL), lb, at_) = ((i1, i2), (some ra, 82, rc, rL.take 82), lb, at_) := by unfold few7V; rw [if_pos h30]
        clear hxo hxo2
        go_upto_region 8 with fail
        clear l0 l1 l2 l3 l4
        obtain ⟨Wt, gWt⟩ : ∃ x, wo.alloc (.cells #[.int .i64 i1, .int .i64 i2, .slice (some ra) 82 rc, .string lb, .int .i64 at_] 47) = x := ⟨_, rfl⟩
        obtain ⟨g3, gg3⟩ : ∃ x, wo.heap.size = x := ⟨_, rfl⟩
        have HO : RowKit.Hid (Ow w (b2 + 1) 47 5 v j (rowsV vC ((Vs.take j).map few7V)) Wt) := Lib.hid (by rw [← gWt]; exact HF.out.ow.up (below1 _ _))
        have HX0 : RowKit.Hid (Whole Wt b0 25 [.slice (some ⟨bb, off, none⟩) n c, .slice B m k]) := Lib.hid (by rw [← gWt]; exact HF.out.x0.alloc _)
        have HX1 : RowKit.Hid (Whole Wt b1 25 [.slice none 0 0, .slice none 0 0]) := Lib.hid (by rw [← gWt]; exact HF.out.x1.alloc _)
        have HX2 : RowKit.Hid (Whole Wt b2 25 [v, .slice none 0 0]) := Lib.hid (by rw [← gWt]; exact HF.out.x2.alloc _)
        have HX3 : RowKit.Hid (Whole Wt g3 47 [.int .i64 i1, .int .i64 i2, .slice (some ra) 82 rc, .string lb, .int .i64 at_]) := Lib.hid (by rw [← gWt, ← gg3]; exact Whole.new_ wo 47 [_, _, _, _, _])
        rw [gWt, gg3]
        clear gWt gg3 HF c0
        have c0 := HX2.out.cell (i := 0) rfl
        have c1 := HX2.out.cell (i := 1) rfl
        have f0 := HX2.out.free 0
        have z0 := HX3.out.cell (i := 0) rfl
        have z1 := HX3.out.cell (i := 1) rfl
        have z2 := HX3.out.cell (i := 2) rfl
        have z3 := HX3.out.cell (i := 3) rfl
        have z4 := HX3.out.cell (i := 4) rfl
        refine wp_region_lit ?_
        refine wl_read (v := ?_) (some 32) rfl (by rfl) ?_ ?_
        rotate_left
        · go_simp; (try with_reducible rfl)
        simp only [Act.put, List.setIfInBounds_toArray, List.set_cons_zero, List.set_cons_succ]
        refine wl_read (v := ?_) (some 33) rfl (by rfl) ?_ ?_
        rotate_left
        · go_simp; (try with_reducible rfl)
        simp only [Act.put, List.setIfInBounds_toArray, List.set_cons_zero, List.set_cons_succ]
        refine wl_load (some 34) rfl (by rfl) 47 (.tmp 5) rfl g3 rfl 47 [.int .i64 i1, .int .i64 i2, .slice (some ra) 82 rc, .string lb, .int .i64 at_] _ HX3.out Tryz.underlying47 rfl (by kernel_rfl) ?_
        simp only [Act.put, List.setIfInBounds_toArray, List.set_cons_zero, List.set_cons_succ]
        refine wl_buildSlice (some 35) rfl (by rfl) 22 47 1 #[(0, .tmp 34)] rfl Tryz.underlying22 #[.int .i64 i1, .int .i64 i2, .slice (some ra) 82 rc, .string lb, .int .i64 at_] (by kernel_rfl) ?_
        simp only [Act.put, List.setIfInBounds_toArray, List.set_cons_zero, List.set_cons_succ]
        refine wpList_push2 rfl (.tmp 33) (.tmp 35) _ rfl _ 47 i0 _ 5 64 Tryz.underlying22 hi hz0 hz1 hz2 rfl (by decide) _ _ _ rfl (by exact HO.out.up (below1 _ _)) _ (some ⟨Wt.heap.size, 0, none⟩) 1 1 [.int .i64 i1, .int .i64 i2, .slice (some ra) 82 rc, .string lb, .int .i64 at_] rfl (by exact RdS.of_whole (Whole.new_ _ _ _) rfl) (by simp [Value.oneCell']) (by unfold maxLen; omega) (by omega) ?_
        intro v1 w1 how1 hb1 hgr
        obtain ⟨Aq, cq, rfl, -⟩ := how1.rds
        have hne2 := HO.out.low_ne (Nat.lt_succ_self b2)
        have HXa := Lib.hid ((HX0.out.alloc (.cells #[.int .i64 i1, .int .i64 i2, .slice (some ra) 82 rc, .string lb, .int .i64 at_] 47)).grown hgr (HO.out.low_ne (by omega)))
        have HXb := Lib.hid ((HX1.out.alloc (.cells #[.int .i64 i1, .int .i64 i2, .slice (some ra) 82 rc, .string lb, .int .i64 at_] 47)).grown hgr (HO.out.low_ne (by omega)))
        have hx2 := (HX2.out.alloc (.cells #[.int .i64 i1, .int .i64 i2, .slice (some ra) 82 rc, .string lb, .int .i64 at_] 47)).grown hgr hne2
        have m0 := hx2.free 0
        have m1 := hx2.cell (i := 0) rfl
        have HFn : RowKit.Hid (Few7A w Vs (some ⟨bb, off, none⟩) B n c m k b0 b1 b2 (j + 1) (.slice Aq (j + 1) cq) (w1.setCell ⟨b2, 0, none⟩ (.slice Aq (j + 1) cq))) := Lib.hid ⟨by
           have := how1.set_far (i := 0) (how1.low_ne (Nat.lt_succ_self b2)) Hl2.out (.slice Aq (j + 1) cq)
           rw [← few7V_next Vs j _ Hx.out, hfv]
           exact this, HXa.out.set_far' h02 _, HXb.out.set_far' h12 _, hx2.set_ 0 _⟩
        clear how1 hb1 hgr hne2 hx2 c0 c1 f0 z0 z1 z2 z3 z4
        go_wp2
        go_roundw
        case rel => exact ⟨j + 1, _, by omega, by omega, by go_num, HFn⟩
        case measure => simp [intOf]; omega
      · have hfv : few7V ((i1, i2), (rA, rn, rc, rL), lb, at_) = ((i1, i2), (rA, rn, rc, rL), lb, at_) := by unfold few7V; rw [if_neg h30]
        clear hxo hxo2
        go_upto_region 8 with fail
        clear l0 l1 l2 l3 l4
        obtain ⟨Wt, gWt⟩ : ∃ x, wo.alloc (.cells #[.int .i64 i1, .int .i64 i2, .slice rA rn rc, .string lb, .int .i64 at_] 47) = x := ⟨_, rfl⟩
        obtain ⟨g3, gg3⟩ : ∃ x, wo.heap.size = x := ⟨_, rfl⟩
        have HO : RowKit.Hid (Ow w (b2 + 1) 47 5 v j (rowsV vC ((Vs.take j).map few7V)) Wt) := Lib.hid (by rw [← gWt]; exact HF.out.ow.up (below1 _ _))
        have HX0 : RowKit.Hid (Whole Wt b0 25 [.slice (some ⟨bb, off, none⟩) n c, .slice B m k]) := Lib.hid (by rw [← gWt]; exact HF.out.x0.alloc _)
        have HX1 : RowKit.Hid (Whole Wt b1 25 [.slice none 0 0, .slice none 0 0]) := Lib.hid (by rw [← gWt]; exact HF.out.x1.alloc _)
        have HX2 : RowKit.Hid (Whole Wt b2 25 [v, .slice none 0 0]) := Lib.hid (by rw [← gWt]; exact HF.out.x2.alloc _)
        have HX3 : RowKit.Hid (Whole Wt g3 47 [.int .i64 i1, .int .i64 i2, .slice rA rn rc, .string lb, .int .i64 at_]) := Lib.hid (by rw [← gWt, ← gg3]; exact Whole.new_ wo 47 [_, _, _, _, _])
        rw [gWt, gg3]
        clear gWt gg3 HF c0
        have c0 := HX2.out.cell (i := 0) rfl
        have c1 := HX2.out.cell (i := 1) rfl
        have f0 := HX2.out.free 0
        have z0 := HX3.out.cell (i := 0) rfl
        have z1 := HX3.out.cell (i := 1) rfl
        have z2 := HX3.out.cell (i := 2) rfl
        have z3 := HX3.out.cell (i := 3) rfl
        have z4 := HX3.out.cell (i := 4) rfl
        refine wp_region_lit ?_
        refine wl_read (v := ?_) (some 32) rfl (by rfl) ?_ ?_
        rotate_left
        · go_simp; (try with_reducible rfl)
        simp only [Act.put, List.setIfInBounds_toArray, List.set_cons_zero, List.set_cons_succ]
        refine wl_read (v := ?_) (some 33) rfl (by rfl) ?_ ?_
        rotate_left
        · go_simp; (try with_reducible rfl)
        simp only [Act.put, List.setIfInBounds_toArray, List.set_cons_zero, List.set_cons_succ]
        refine wl_load (some 34) rfl (by rfl) 47 (.tmp 5) rfl g3 rfl 47 [.int .i64 i1, .int .i64 i2, .slice rA rn rc, .string lb, .int .i64 at_] _ HX3.out Tryz.underlying47 rfl (by kernel_rfl) ?_
        simp only [Act.put, List.setIfInBounds_toArray, List.set_cons_zero, List.set_cons_succ]
        refine wl_buildSlice (some 35) rfl (by rfl) 22 47 1 #[(0, .tmp 34)] rfl Tryz.underlying22 #[.int .i64 i1, .int .i64 i2, .slice rA rn rc, .string lb, .int .i64 at_] (by kernel_rfl) ?_
        simp only [Act.put, List.setIfInBounds_toArray, List.set_cons_zero, List.set_cons_succ]
        refine wpList_push2 rfl (.tmp 33) (.tmp 35) _ rfl _ 47 i0 _ 5 64 Tryz.underlying22 hi hz0 hz1 hz2 rfl (by decide) _ _ _ rfl (by exact HO.out.up (below1 _ _)) _ (some ⟨Wt.heap.size, 0, none⟩) 1 1 [.int .i64 i1, .int .i64 i2, .slice rA rn rc, .string lb, .int .i64 at_] rfl (by exact RdS.of_whole (Whole.new_ _ _ _) rfl) (by simp [Value.oneCell']) (by unfold maxLen; omega) (by omega) ?_
        intro v1 w1 how1 hb1 hgr
        obtain ⟨Aq, cq, rfl, -⟩ := how1.rds
        have hne2 := HO.out.low_ne (Nat.lt_succ_self b2)
        have HXa := Lib.hid ((HX0.out.alloc (.cells #[.int .i64 i1, .int .i64 i2, .slice rA rn rc, .string lb, .int .i64 at_] 47)).grown hgr (HO.out.low_ne (by omega)))
        have HXb := Lib.hid ((HX1.out.alloc (.cells #[.int .i64 i1, .int .i64 i2, .slice rA rn rc, .string lb, .int .i64 at_] 47)).grown hgr (HO.out.low_ne (by omega)))
        have hx2 := (HX2.out.alloc (.cells #[.int .i64 i1, .int .i64 i2, .slice rA rn rc, .string lb, .int .i64 at_] 47)).grown hgr hne2
        have m0 := hx2.free 0
        have m1 := hx2.cell (i := 0) rfl
        have HFn : RowKit.Hid (Few7A w Vs (some ⟨bb, off, none⟩) B n c m k b0 b1 b2 (j + 1) (.slice Aq (j + 1) cq) (w1.setCell ⟨b2, 0, none⟩ (.slice Aq (j + 1) cq))) := Lib.hid ⟨by
           have := how1.set_far (i := 0) (how1.low_ne (Nat.lt_succ_self b2)) Hl2.out (.slice Aq (j + 1) cq)
           rw [← few7V_next Vs j _ Hx.out, hfv]
           exact this, HXa.out.set_far' h02 _, HXb.out.set_far' h12 _, hx2.set_ 0 _⟩
        clear how1 hb1 hgr hne2 hx2 c0 c1 f0 z0 z1 z2 z3 z4
        go_wp2
        go_roundw
        case rel => exact ⟨j + 1, _, by omega, by omega, by go_num, HFn⟩
        case measure => simp [intOf]; omega
    · by_cases hjn : j < n
      · have hj3 : ¬ j < 26 := by omega
        have hjl : (Vs.take 26).length = j := by have := Hlv.out; rw [List.length_take]; omega
        have htk : Vs.take j = Vs.take 26 := by
          rw [← hjl, List.length_take]
          rcases Nat.le_total 26 Vs.length with h | h
          · rw [Nat.min_eq_left h]
          · rw [Nat.min_eq_right h, List.take_length, List.take_of_length_le h]
        obtain ⟨A1, c1, rfl, hr1⟩ := HF.out.ow.rds
        have Hcap1 : RowKit.Hid (c1 ≤ maxLen) := Lib.hid (own_cap HF.out.ow.own)
        rw [htk] at hr1
        have hne : ∀ a, A1 = some a → 0 < j → a.block ≠ b2 ∧ a.block ≠ b1 ∧ w.heap.size ≤ a.block := fun a ha _ => by
          subst ha
          have h9 := (HF.out.ow.own.lt a.block rfl).1
          have h8 := Hl2.out
          omega
        have hB2 : b2 < wo.heap.size := HF.out.x2.lt
        obtain ⟨B2, gB2⟩ : ∃ z, wo.heap.size = z := ⟨_, rfl⟩
        have hB3 : B2 ≤ wo.heap.size := by omega
        rw [gB2] at hr1 hB2
        have HG0 : RowKit.Hid (Few7B w Vs Es A B n c m k b0 b1 b2 B2 j A1 c1 0 (.slice none 0 0) (.slice none 0 0) wo) := Lib.hid ⟨Ow.nil_ HF.out.ow.below (by have := HF.out.ow.below.size; omega) hB3, HF.out.x0, HF.out.x1, HF.out.x2, hr1⟩
        have Hne := Lib.hid hne
        have Hjl := Lib.hid hjl
        have HlB : RowKit.Hid (w.heap.size ≤ B2) := Lib.hid (by have := HF.out.ow.below.size; omega)
        clear hr1 hne htk gB2 HF hB3 hjl
        go_wp2
        clear c0
        go_loopw [6] (fun si wr => ∃ (q : Nat) (v2 : Value), q ≤ m ∧ q ≤ 42 ∧ si = .int .i64 q ∧ RowKit.Hid (Few7B w Vs Es A B n c m k b0 b1 b2 B2 j A1 c1 q v2 v2 wr)) (fun si _ => m - (intOf si).toNat)
        case atStart => exact ⟨0, _, by omega, by omega, rfl, HG0⟩
        case round =>
          clear HG0
          obtain ⟨q, v2, hq, hq50, rfl, HG⟩ := hrel
          obtain ⟨wi, gwi⟩ : ∃ z, wr = z := ⟨_, rfl⟩
          rw [gwi] at HG ⊢
          clear gwi
          have d0 := HG.out.x0.cell (i := 1) rfl
          by_cases hgo2 : q < m ∧ q < 42
          · obtain ⟨hqm, hq5⟩ := hgo2
            obtain ⟨x, hx⟩ : ∃ x, Es[q]? = some x := ⟨_, List.getElem?_eq_getElem (by have := Hle.out; omega)⟩
            have Hx := Lib.hid hx
            obtain ⟨bb, off, rfl, hbB, hpl⟩ := HE.out.place eC_len (by decide) (by omega)
            have HPl := Lib.hid (hpl q _ hx)
            have HbB := Lib.hid hbB
            clear hx hpl hbB
            go_upto_region 12 with fail
            clear d0
            have HGd := Lib.hid (HG.out.below ((Below.refl _ _).drew))
            have HP : RowKit.Hid (∀ w', Kept (From_ B2) wi.drew w' → ∀ i u, (eC x)[i]? = some u → w'.cell? ((⟨bb, off + q * 4, none⟩ : Addr).add i) = some u) := Lib.hid (fun w' hk i u hu => hk.from_cell (by rw [add_block]; exact Nat.lt_of_lt_of_le HbB.out HlB.out) ((HGd.out.ow.below.cell (by rw [add_block]; exact HbB.out)).trans (HPl.out i u hu)))
            have ld1 : ∀ w', Kept (From_ B2) wi.drew w' → w'.cell? ⟨b2, 1, none⟩ = some v2 := fun w' hk => hk.from_cell hB2 (HGd.out.x2.cell (i := 1) rfl)
            have ld0 : ∀ w', Kept (From_ B2) wi.drew w' → w'.cell? ⟨b0, 1, none⟩ = some (.slice (some ⟨bb, off, none⟩) m k) := fun w' hk => hk.from_cell (show b0 < B2 by omega) (HGd.out.x0.cell (i := 1) rfl)
            clear HG
            refine wp_region_tail (From_ B2) [10] (by kernel_rfl) ?_
            apply wpT_next 0 (some 49) (by kernel_rfl)
            · simp only [List.getElem?_toArray, List.getElem?_cons_succ, List.getElem?_cons_zero]; exact rfl
            · rfl
            · kernel_rfl
            · kernel_rfl
            · kernel_rfl
            · exact fun _ _ _ _ h => h
            apply Exists.intro
            apply And.intro
            · apply yr_run; rfl; intro w' hw'; go_simp; (try with_reducible rfl)
            simp only [Act.put, List.setIfInBounds_toArray, List.set_cons_zero, List.set_cons_succ]
            apply wpT_next 1 (some 50) (by kernel_rfl)
            · simp only [List.getElem?_toArray, List.getElem?_cons_succ, List.getElem?_cons_zero]; exact rfl
            · rfl
            · kernel_rfl
            · kernel_rfl
            · kernel_rfl
            · exact fun _ _ _ _ h => h
            apply Exists.intro
            apply And.intro
            · apply yr_run; rfl; intro w' hw'; go_simp; (try with_reducible rfl)
            simp only [Act.put, List.setIfInBounds_toArray, List.set_cons_zero, List.set_cons_succ]
            apply wpT_next 2 (some 51) (by kernel_rfl)
            · simp only [List.getElem?_toArray, List.getElem?_cons_succ, List.getElem?_cons_zero]; exact rfl
            · rfl
            · kernel_rfl
            · kernel_rfl
            · kernel_rfl
            · exact fun _ _ _ _ h => h
            apply Exists.intro
            apply And.intro
            · apply yr_run; rfl; intro w' hw'; go_simp; (try with_reducible rfl)
            simp only [Act.put, List.setIfInBounds_toArray, List.set_cons_zero, List.set_cons_succ]
            apply wpT_next 3 (some 52) (by kernel_rfl)
            · simp only [List.getElem?_toArray, List.getElem?_cons_succ, List.getElem?_cons_zero]; exact rfl
            · rfl
            · kernel_rfl
            · kernel_rfl
            · kernel_rfl
            · exact fun _ _ _ _ h => h
            apply Exists.intro
            apply And.intro
            · apply yr_run; rfl; intro w' hw'; go_simp; (try with_reducible rfl)
            simp only [Act.put, List.setIfInBounds_toArray, List.set_cons_zero, List.set_cons_succ]
            apply wpT_next 4 (some 53) (by kernel_rfl)
            · simp only [List.getElem?_toArray, List.getElem?_cons_succ, List.getElem?_cons_zero]; exact rfl
            · rfl
            · kernel_rfl
            · kernel_rfl
            · kernel_rfl
            · exact fun _ _ _ _ h => h
            apply Exists.intro
            apply And.intro
            · apply yr_run; rfl; intro w' hw'; go_simp; (try with_reducible rfl)
            simp only [Act.put, List.setIfInBounds_toArray, List.set_cons_zero, List.set_cons_succ]
            apply wpT_next 5 (some 54) (by kernel_rfl)
            · simp only [List.getElem?_toArray, List.getElem?_cons_succ, List.getElem?_cons_zero]; exact rfl
            · rfl
            · kernel_rfl
            · kernel_rfl
            · kernel_rfl
            · exact fun _ _ _ _ h => h
            apply Exists.intro
            apply And.intro
            · apply yr_run; rfl; intro w' hw'; go_simp; (try with_reducible rfl)
            simp only [Act.put, List.setIfInBounds_toArray, List.set_cons_zero, List.set_cons_succ]
            apply wpT_next 6 (some 55) (by kernel_rfl)
            · simp only [List.getElem?_toArray, List.getElem?_cons_succ, List.getElem?_cons_zero]; exact rfl
            · rfl
            · kernel_rfl
            · kernel_rfl
            · kernel_rfl
            · exact fun _ _ _ _ h => h
            apply Exists.intro
            apply And.intro
            · exact yr_load_at (by rfl) 43 (.tmp 54) rfl ⟨bb, off + q * 4, none⟩ rfl (eC x) _ HP.out Tryz.underlying43 rfl (by kernel_rfl)
            simp only [Act.put, List.setIfInBounds_toArray, List.set_cons_zero, List.set_cons_succ]
            apply wpT_run 7 (some 56)
            · simp only [List.getElem?_toArray, List.getElem?_cons_succ, List.getElem?_cons_zero]; exact rfl
            · rfl
            · kernel_rfl
            · rfl
            intro w' hw'
            refine ⟨.slice (some ⟨w'.heap.size, 0, none⟩) 1 1, w'.alloc (.cells (eC x).toArray 43), exec_buildSlice 23 43 1 #[(0, .tmp 55)] (by rfl) Tryz.underlying23 _ (by kernel_rfl), Kept.of_below (below1 _ _), ?_⟩
            have HXd : RowKit.Hid (Ext wi.drew (w'.alloc (.cells (eC x).toArray 43))) := Lib.hid (Ext.trans hw' (below1 _ _))
            have HL : RowKit.Hid (RdS (w'.alloc (.cells (eC x).toArray 43)) (w'.alloc (.cells (eC x).toArray 43)).heap.size 4 (some ⟨w'.heap.size, 0, none⟩) 1 1 (eC x)) := Lib.hid (RdS.of_whole (Whole.new_ _ _ _) rfl)
            obtain ⟨W3, gW3⟩ : ∃ z, w'.alloc (.cells (eC x).toArray 43) = z := ⟨_, rfl⟩
            obtain ⟨g3, gg3⟩ : ∃ z, w'.heap.size = z := ⟨_, rfl⟩
            rw [gW3] at HXd HL ⊢
            rw [gg3] at HL ⊢
            clear hw' gW3 gg3
            simp only [Act.put, List.setIfInBounds_toArray, List.set_cons_zero, List.set_cons_succ]
            apply wpT_run 8 (some 57)
            · simp only [List.getElem?_toArray, List.getElem?_cons_succ, List.getElem?_cons_zero]; exact rfl
            · rfl
            · kernel_rfl
            · rfl
            intro w' hw'
            have HG8 := HGd.out.below (Ext.trans HXd.out hw')
            obtain ⟨v8, w'', hrun, ho, hb8⟩ := Ow.app (P := Tryz.prog) 23 23 43 i1 _ 4 40 B2 Tryz.underlying23 hi1 hz01 hz11 hz21 rfl (by decide) _ _ _ HG8.ow _ _ 1 1 _ (HL.out.bl hw') (eC_one x) (by unfold maxLen; omega) (by omega)
            obtain ⟨A8, c8, rfl, -⟩ := ho.rds
            refine ⟨_, w'', exec_append (by rfl) (by rfl) (by rfl) hrun, Kept.of_from hb8, ?_⟩
            have HG9 := Lib.hid (HG8.grow Hx.out ho hb8 (by omega) (by omega) hB2)
            obtain ⟨W4, gW4⟩ : ∃ z, w'' = z := ⟨_, rfl⟩
            rw [gW4] at HG9 ⊢
            clear hw' HG8 hrun ho hb8 gW4 HXd HL HGd
            simp only [Act.put, List.setIfInBounds_toArray, List.set_cons_zero, List.set_cons_succ]
            apply wpT_next 9 (some 58) (by kernel_rfl)
            · simp only [List.getElem?_toArray, List.getElem?_cons_succ, List.getElem?_cons_zero]; exact rfl
            · rfl
            · kernel_rfl
            · kernel_rfl
            · kernel_rfl
            · exact fun _ _ _ _ h => h
            apply Exists.intro
            apply And.intro
            · apply yr_run; rfl; intro w' hw'; go_simp; (try with_reducible rfl)
            simp only [Act.put, List.setIfInBounds_toArray, List.set_cons_zero, List.set_cons_succ]
            apply wpT_last 10
            · simp only [List.getElem?_toArray, List.getElem?_cons_succ, List.getElem?_cons_zero]; exact rfl
            · rfl
            · kernel_rfl
            · rfl
            · decide
            intro w' hw'
            have hx2 := HG9.out.x2.below hw'
            have hcl := hx2.cell (i := 1) rfl
            have hfr := hx2.free 1
            refine ⟨w'.setCell ⟨b2, 1, none⟩ (.slice A8 (q + 1) c8), ?_, ?_⟩
            · go_simp; first | done | exact rfl
            have HG10 := Lib.hid ((HG9.out.below hw').store h02 h12 hB2 Hl2.out (fun a ha h0 => (Hne.out a ha h0).1))
            obtain ⟨W5, gW5⟩ : ∃ z, w'.setCell ⟨b2, 1, none⟩ (.slice A8 (q + 1) c8) = z := ⟨_, rfl⟩
            rw [gW5] at HG10 ⊢
            clear hw' hx2 hcl hfr gW5 HG9
            try simp only [Act.put, List.setIfInBounds_toArray, List.set_cons_zero, List.set_cons_succ]
            refine wpT_done (by kernel_rfl) ?_ _
            intro W6 hw6
            have HG6 := Lib.hid (HG10.out.below hw6)
            clear hw6 ld0 ld1 HP HG10
            go_wp2
            go_roundw
            case rel => exact ⟨q + 1, _, by omega, by omega, by go_num, HG6⟩
            case measure => simp [intOf]; omega
          · have hql : (Es.take 42).length = q := by have := Hle.out; rw [List.length_take]; omega
            have htk2 : Es.take q = Es.take 42 := by
              rw [← hql, List.length_take]
              rcases Nat.le_total 42 Es.length with h | h
              · rw [Nat.min_eq_left h]
              · rw [Nat.min_eq_right h, List.take_length, List.take_of_length_le h]
            obtain ⟨A2, c2, rfl, hr2⟩ := HG.out.ow.rds
            have hcap2 : c2 ≤ maxLen := own_cap HG.out.ow.own
            have hfr2 : ∀ a, A2 = some a → 0 < q → w.heap.size ≤ a.block := fun a ha _ => by
              subst ha
              have h9 := (HG.out.ow.own.lt a.block rfl).1
              have h8 := HlB.out
              omega
            rw [htk2] at hr2
            have hne2 : ∀ a, A2 = some a → 0 < q → a.block ≠ b1 := fun a ha _ => by
              subst ha
              have h9 := (HG.out.ow.own.lt a.block rfl).1
              omega
            have hpost : ∃ A' c' B' k', Ending.returned (.agg #[.slice A1 j c1, .slice A2 q c2]) = .returned (.agg #[.slice A' (Vs.take 26).length c', .slice B' (Es.take 42).length k']) ∧
              DgIn ((wi.setCell ⟨b1, 0, none⟩ (.slice A1 j c1)).setCell ⟨b1, 1, none⟩ (.slice A2 q c2)) A' (Vs.take 26).length c' ((Vs.take 26).map few7V) B' (Es.take 42).length k' (Es.take 42) ∧ Below w.heap.size w ((wi.setCell ⟨b1, 0, none⟩ (.slice A1 j c1)).setCell ⟨b1, 1, none⟩ (.slice A2 q c2)) ∧ FwNew w A' (Vs.take 26).length c' B' (Es.take 42).length k' := by
              have hbel := (HG.out.ow.below.setCell (p := ⟨b1, 0, none⟩) Hl1.out (.slice A1 j c1)).setCell (p := ⟨b1, 1, none⟩) Hl1.out (.slice A2 q c2)
              refine ⟨A1, c1, A2, c2, by rw [Hjl.out, hql], ?_, hbel, ?_⟩
              rotate_left
              · rw [Hjl.out, hql]
                exact ⟨Hcap1.out, hcap2, fun a ha h0 => (Hne.out a ha h0).2.2, hfr2⟩
              rw [Hjl.out, hql]
              refine ⟨((HG.out.rv.far_ (fun a ha h0 => (Hne.out a ha h0).2.1) _).far_ (fun a ha h0 => (Hne.out a ha h0).2.1) _).up (Below.refl _ _) (by simpa [World.setCell] using HG.out.ow.hi), ((hr2.far_ hne2 _).far_ hne2 _).up (Below.refl _ _) (by simp [World.setCell]), fun y hy => ?_⟩
              obtain ⟨x, hx, rfl⟩ := List.mem_map.1 hy
              exact (RgOk.few7 (HRg.out x (List.mem_of_mem_take hx))).below hbel
            have hx1 := (HG.out.x1.set_ 0 (.slice A1 j c1)).set_ 1 (.slice A2 q c2)
            have e0 := HG.out.x2.cell (i := 0) rfl
            have e1 := HG.out.x2.cell (i := 1) rfl
            have f0 := HG.out.x1.free 0
            have f1 := HG.out.x1.free 1
            have k0 := HG.out.x1.cell (i := 0) rfl
            have k1 := HG.out.x1.cell (i := 1) rfl
            have Hpost := Lib.hid hpost
            have Hx1 := Lib.hid hx1
            clear hpost hx1 hr2 hne2 HG htk2 hql hcap2 hfr2
            by_cases hqm : q < m
            · have hq5 : ¬ q < 42 := by omega
              go_wp2
              exact ret_whole rfl b1 rfl Hx1.out Tryz.underlying25 rfl (by kernel_rfl) rfl Hpost.out
            · go_wp2
              exact ret_whole rfl b1 rfl Hx1.out Tryz.underlying25 rfl (by kernel_rfl) rfl Hpost.out
      · have hjl : (Vs.take 26).length = j := by have := Hlv.out; rw [List.length_take]; omega
        have htk : Vs.take j = Vs.take 26 := by
          rw [← hjl, List.length_take]
          rcases Nat.le_total 26 Vs.length with h | h
          · rw [Nat.min_eq_left h]
          · rw [Nat.min_eq_right h, List.take_length, List.take_of_length_le h]
        obtain ⟨A1, c1, rfl, hr1⟩ := HF.out.ow.rds
        have Hcap1 : RowKit.Hid (c1 ≤ maxLen) := Lib.hid (own_cap HF.out.ow.own)
        rw [htk] at hr1
        have hne : ∀ a, A1 = some a → 0 < j → a.block ≠ b2 ∧ a.block ≠ b1 ∧ w.heap.size ≤ a.block := fun a ha _ => by
          subst ha
          have h9 := (HF.out.ow.own.lt a.block rfl).1
          have h8 := Hl2.out
          omega
        have hB2 : b2 < wo.heap.size := HF.out.x2.lt
        obtain ⟨B2, gB2⟩ : ∃ z, wo.heap.size = z := ⟨_, rfl⟩
        have hB3 : B2 ≤ wo.heap.size := by omega
        rw [gB2] at hr1 hB2
        have HG0 : RowKit.Hid (Few7B w Vs Es A B n c m k b0 b1 b2 B2 j A1 c1 0 (.slice none 0 0) (.slice none 0 0) wo) := Lib.hid ⟨Ow.nil_ HF.out.ow.below (by have := HF.out.ow.below.size; omega) hB3, HF.out.x0, HF.out.x1, HF.out.x2, hr1⟩
        have Hne := Lib.hid hne
        have Hjl := Lib.hid hjl
        have HlB : RowKit.Hid (w.heap.size ≤ B2) := Lib.hid (by have := HF.out.ow.below.size; omega)
        clear hr1 hne htk gB2 HF hB3 hjl
        go_wp2
        clear c0
        go_loopw [6] (fun si wr => ∃ (q : Nat) (v2 : Value), q ≤ m ∧ q ≤ 42 ∧ si = .int .i64 q ∧ RowKit.Hid (Few7B w Vs Es A B n c m k b0 b1 b2 B2 j A1 c1 q v2 v2 wr)) (fun si _ => m - (intOf si).toNat)
        case atStart => exact ⟨0, _, by omega, by omega, rfl, HG0⟩
        case round =>
          clear HG0
          obtain ⟨q, v2, hq, hq50, rfl, HG⟩ := hrel
          obtain ⟨wi, gwi⟩ : ∃ z, wr = z := ⟨_, rfl⟩
          rw [gwi] at HG ⊢
          clear gwi
          have d0 := HG.out.x0.cell (i := 1) rfl
          by_cases hgo2 : q < m ∧ q < 42
          · obtain ⟨hqm, hq5⟩ := hgo2
            obtain ⟨x, hx⟩ : ∃ x, Es[q]? = some x := ⟨_, List.getElem?_eq_getElem (by have := Hle.out; omega)⟩
            have Hx := Lib.hid hx
            obtain ⟨bb, off, rfl, hbB, hpl⟩ := HE.out.place eC_len (by decide) (by omega)
            have HPl := Lib.hid (hpl q _ hx)
            have HbB := Lib.hid hbB
            clear hx hpl hbB
            go_upto_region 12 with fail
            clear d0
            have HGd := Lib.hid (HG.out.below ((Below.refl _ _).drew))
            have HP : RowKit.Hid (∀ w', Kept (From_ B2) wi.drew w' → ∀ i u, (eC x)[i]? = some u → w'.cell? ((⟨bb, off + q * 4, none⟩ : Addr).add i) = some u) := Lib.hid (fun w' hk i u hu => hk.from_cell (by rw [add_block]; exact Nat.lt_of_lt_of_le HbB.out HlB.out) ((HGd.out.ow.below.cell (by rw [add_block]; exact HbB.out)).trans (HPl.out i u hu)))
            have ld1 : ∀ w', Kept (From_ B2) wi.drew w' → w'.cell? ⟨b2, 1, none⟩ = some v2 := fun w' hk => hk.from_cell hB2 (HGd.out.x2.cell (i := 1) rfl)
            have ld0 : ∀ w', Kept (From_ B2) wi.drew w' → w'.cell? ⟨b0, 1, none⟩ = some (.slice (some ⟨bb, off, none⟩) m k) := fun w' hk => hk.from_cell (show b0 < B2 by omega) (HGd.out.x0.cell (i := 1) rfl)
            clear HG
            refine wp_region_tail (From_ B2) [10] (by kernel_rfl) ?_
            apply wpT_next 0 (some 49) (by kernel_rfl)
            · simp only [List.getElem?_toArray, List.getElem?_cons_succ, List.getElem?_cons_zero]; exact rfl
            · rfl
            · kernel_rfl
            · kernel_rfl
            · kernel_rfl
            · exact fun _ _ _ _ h => h
            apply Exists.intro
            apply And.intro
            · apply yr_run; rfl; intro w' hw'; go_simp; (try with_reducible rfl)
            simp only [Act.put, List.setIfInBounds_toArray, List.set_cons_zero, List.set_cons_succ]
            apply wpT_next 1 (some 50) (by kernel_rfl)
            · simp only [List.getElem?_toArray, List.getElem?_cons_succ, List.getElem?_cons_zero]; exact rfl
            · rfl
            · kernel_rfl
            · kernel_rfl
            · kernel_rfl
            · exact fun _ _ _ _ h => h
            apply Exists.intro
            apply And.intro
            · apply yr_run; rfl; intro w' hw'; go_simp; (try with_reducible rfl)
            simp only [Act.put, List.setIfInBounds_toArray, List.set_cons_zero, List.set_cons_succ]
            apply wpT_next 2 (some 51) (by kernel_rfl)
            · simp only [List.getElem?_toArray, List.getElem?_cons_succ, List.getElem?_cons_zero]; exact rfl
            · rfl
            · kernel_rfl
            · kernel_rfl
            · kernel_rfl
            · exact fun _ _ _ _ h => h
            apply Exists.intro
            apply And.intro
            · apply yr_run; rfl; intro w' hw'; go_simp; (try with_reducible rfl)
            simp only [Act.put, List.setIfInBounds_toArray, List.set_cons_zero, List.set_cons_succ]
            apply wpT_next 3 (some 52) (by kernel_rfl)
            · simp only [List.getElem?_toArray, List.getElem?_cons_succ, List.getElem?_cons_zero]; exact rfl
            · rfl
            · kernel_rfl
            · kernel_rfl
            · kernel_rfl
            · exact fun _ _ _ _ h => h
            apply Exists.intro
            apply And.intro
            · apply yr_run; rfl; intro w' hw'; go_simp; (try with_reducible rfl)
            simp only [Act.put, List.setIfInBounds_toArray, List.set_cons_zero, List.set_cons_succ]
            apply wpT_next 4 (some 53) (by kernel_rfl)
            · simp only [List.getElem?_toArray, List.getElem?_cons_succ, List.getElem?_cons_zero]; exact rfl
            · rfl
            · kernel_rfl
            · kernel_rfl
            · kernel_rfl
            · exact fun _ _ _ _ h => h
            apply Exists.intro
            apply And.intro
            · apply yr_run; rfl; intro w' hw'; go_simp; (try with_reducible rfl)
            simp only [Act.put, List.setIfInBounds_toArray, List.set_cons_zero, List.set_cons_succ]
            apply wpT_next 5 (some 54) (by kernel_rfl)
            · simp only [List.getElem?_toArray, List.getElem?_cons_succ, List.getElem?_cons_zero]; exact rfl
            · rfl
            · kernel_rfl
            · kernel_rfl
            · kernel_rfl
            · exact fun _ _ _ _ h => h
            apply Exists.intro
            apply And.intro
            · apply yr_run; rfl; intro w' hw'; go_simp; (try with_reducible rfl)
            simp only [Act.put, List.setIfInBounds_toArray, List.set_cons_zero, List.set_cons_succ]
            apply wpT_next 6 (some 55) (by kernel_rfl)
            · simp only [List.getElem?_toArray, List.getElem?_cons_succ, List.getElem?_cons_zero]; exact rfl
            · rfl
            · kernel_rfl
            · kernel_rfl
            · kernel_rfl
            · exact fun _ _ _ _ h => h
            apply Exists.intro
            apply And.intro
            · exact yr_load_at (by rfl) 43 (.tmp 54) rfl ⟨bb, off + q * 4, none⟩ rfl (eC x) _ HP.out Tryz.underlying43 rfl (by kernel_rfl)
            simp only [Act.put, List.setIfInBounds_toArray, List.set_cons_zero, List.set_cons_succ]
            apply wpT_run 7 (some 56)
            · simp only [List.getElem?_toArray, List.getElem?_cons_succ, List.getElem?_cons_zero]; exact rfl
            · rfl
            · kernel_rfl
            · rfl
            intro w' hw'
            refine ⟨.slice (some ⟨w'.heap.size, 0, none⟩) 1 1, w'.alloc (.cells (eC x).toArray 43), exec_buildSlice 23 43 1 #[(0, .tmp 55)] (by rfl) Tryz.underlying23 _ (by kernel_rfl), Kept.of_below (below1 _ _), ?_⟩
            have HXd : RowKit.Hid (Ext wi.drew (w'.alloc (.cells (eC x).toArray 43))) := Lib.hid (Ext.trans hw' (below1 _ _))
            have HL : RowKit.Hid (RdS (w'.alloc (.cells (eC x).toArray 43)) (w'.alloc (.cells (eC x).toArray 43)).heap.size 4 (some ⟨w'.heap.size, 0, none⟩) 1 1 (eC x)) := Lib.hid (RdS.of_whole (Whole.new_ _ _ _) rfl)
            obtain ⟨W3, gW3⟩ : ∃ z, w'.alloc (.cells (eC x).toArray 43) = z := ⟨_, rfl⟩
            obtain ⟨g3, gg3⟩ : ∃ z, w'.heap.size = z := ⟨_, rfl⟩
            rw [gW3] at HXd HL ⊢
            rw [gg3] at HL ⊢
            clear hw' gW3 gg3
            simp only [Act.put, List.setIfInBounds_toArray, List.set_cons_zero, List.set_cons_succ]
            apply wpT_run 8 (some 57)
            · simp only [List.getElem?_toArray, List.getElem?_cons_succ, List.getElem?_cons_zero]; exact rfl
            · rfl
            · kernel_rfl
            · rfl
            intro w' hw'
            have HG8 := HGd.out.below (Ext.trans HXd.out hw')
            obtain ⟨v8, w'', hrun, ho, hb8⟩ := Ow.app (P := Tryz.prog) 23 23 43 i1 _ 4 40 B2 Tryz.underlying23 hi1 hz01 hz11 hz21 rfl (by decide) _ _ _ HG8.ow _ _ 1 1 _ (HL.out.bl hw') (eC_one x) (by unfold maxLen; omega) (by omega)
            obtain ⟨A8, c8, rfl, -⟩ := ho.rds
            refine ⟨_, w'', exec_append (by rfl) (by rfl) (by rfl) hrun, Kept.of_from hb8, ?_⟩
            have HG9 := Lib.hid (HG8.grow Hx.out ho hb8 (by omega) (by omega) hB2)
            obtain ⟨W4, gW4⟩ : ∃ z, w'' = z := ⟨_, rfl⟩
            rw [gW4] at HG9 ⊢
            clear hw' HG8 hrun ho hb8 gW4 HXd HL HGd
            simp only [Act.put, List.setIfInBounds_toArray, List.set_cons_zero, List.set_cons_succ]
            apply wpT_next 9 (some 58) (by kernel_rfl)
            · simp only [List.getElem?_toArray, List.getElem?_cons_succ, List.getElem?_cons_zero]; exact rfl
            · rfl
            · kernel_rfl
            · kernel_rfl
            · kernel_rfl
            · exact fun _ _ _ _ h => h
            apply Exists.intro
            apply And.intro
            · apply yr_run; rfl; intro w' hw'; go_simp; (try with_reducible rfl)
            simp only [Act.put, List.setIfInBounds_toArray, List.set_cons_zero, List.set_cons_succ]
            apply wpT_last 10
            · simp only [List.getElem?_toArray, List.getElem?_cons_succ, List.getElem?_cons_zero]; exact rfl
            · rfl
            · kernel_rfl
            · rfl
            · decide
            intro w' hw'
            have hx2 := HG9.out.x2.below hw'
            have hcl := hx2.cell (i := 1) rfl
            have hfr := hx2.free 1
            refine ⟨w'.setCell ⟨b2, 1, none⟩ (.slice A8 (q + 1) c8), ?_, ?_⟩
            · go_simp; first | done | exact rfl
            have HG10 := Lib.hid ((HG9.out.below hw').store h02 h12 hB2 Hl2.out (fun a ha h0 => (Hne.out a ha h0).1))
            obtain ⟨W5, gW5⟩ : ∃ z, w'.setCell ⟨b2, 1, none⟩ (.slice A8 (q + 1) c8) = z := ⟨_, rfl⟩
            rw [gW5] at HG10 ⊢
            clear hw' hx2 hcl hfr gW5 HG9
            try simp only [Act.put, List.setIfInBounds_toArray, List.set_cons_zero, List.set_cons_succ]
            refine wpT_done (by kernel_rfl) ?_ _
            intro W6 hw6
            have HG6 := Lib.hid (HG10.out.below hw6)
            clear hw6 ld0 ld1 HP HG10
            go_wp2
            go_roundw
            case rel => exact ⟨q + 1, _, by omega, by omega, by go_num, HG6⟩
            case measure => simp [intOf]; omega
          · have hql : (Es.take 42).length = q := by have := Hle.out; rw [List.length_take]; omega
            have htk2 : Es.take q = Es.take 42 := by
              rw [← hql, List.length_take]
              rcases Nat.le_total 42 Es.length with h | h
              · rw [Nat.min_eq_left h]
              · rw [Nat.min_eq_right h, List.take_length, List.take_of_length_le h]
            obtain ⟨A2, c2, rfl, hr2⟩ := HG.out.ow.rds
            have hcap2 : c2 ≤ maxLen := own_cap HG.out.ow.own
            have hfr2 : ∀ a, A2 = some a → 0 < q → w.heap.size ≤ a.block := fun a ha _ => by
              subst ha
              have h9 := (HG.out.ow.own.lt a.block rfl).1
              have h8 := HlB.out
              omega
            rw [htk2] at hr2
            have hne2 : ∀ a, A2 = some a → 0 < q → a.block ≠ b1 := fun a ha _ => by
              subst ha
              have h9 := (HG.out.ow.own.lt a.block rfl).1
              omega
            have hpost : ∃ A' c' B' k', Ending.returned (.agg #[.slice A1 j c1, .slice A2 q c2]) = .returned (.agg #[.slice A' (Vs.take 26).length c', .slice B' (Es.take 42).length k']) ∧
              DgIn ((wi.setCell ⟨b1, 0, none⟩ (.slice A1 j c1)).setCell ⟨b1, 1, none⟩ (.slice A2 q c2)) A' (Vs.take 26).length c' ((Vs.take 26).map few7V) B' (Es.take 42).length k' (Es.take 42) ∧ Below w.heap.size w ((wi.setCell ⟨b1, 0, none⟩ (.slice A1 j c1)).setCell ⟨b1, 1, none⟩ (.slice A2 q c2)) ∧ FwNew w A' (Vs.take 26).length c' B' (Es.take 42).length k' := by
              have hbel := (HG.out.ow.below.setCell (p := ⟨b1, 0, none⟩) Hl1.out (.slice A1 j c1)).setCell (p := ⟨b1, 1, none⟩) Hl1.out (.slice A2 q c2)
              refine ⟨A1, c1, A2, c2, by rw [Hjl.out, hql], ?_, hbel, ?_⟩
              rotate_left
              · rw [Hjl.out, hql]
                exact ⟨Hcap1.out, hcap2, fun a ha h0 => (Hne.out a ha h0).2.2, hfr2⟩
              rw [Hjl.out, hql]
              refine ⟨((HG.out.rv.far_ (fun a ha h0 => (Hne.out a ha h0).2.1) _).far_ (fun a ha h0 => (Hne.out a ha h0).2.1) _).up (Below.refl _ _) (by simpa [World.setCell] using HG.out.ow.hi), ((hr2.far_ hne2 _).far_ hne2 _).up (Below.refl _ _) (by simp [World.setCell]), fun y hy => ?_⟩
              obtain ⟨x, hx, rfl⟩ := List.mem_map.1 hy
              exact (RgOk.few7 (HRg.out x (List.mem_of_mem_take hx))).below hbel
            have hx1 := (HG.out.x1.set_ 0 (.slice A1 j c1)).set_ 1 (.slice A2 q c2)
            have e0 := HG.out.x2.cell (i := 0) rfl
            have e1 := HG.out.x2.cell (i := 1) rfl
            have f0 := HG.out.x1.free 0
            have f1 := HG.out.x1.free 1
            have k0 := HG.out.x1.cell (i := 0) rfl
            have k1 := HG.out.x1.cell (i := 1) rfl
            have Hpost := Lib.hid hpost
            have Hx1 := Lib.hid hx1
            clear hpost hx1 hr2 hne2 HG htk2 hql hcap2 hfr2
            by_cases hqm : q < m
            · have hq5 : ¬ q < 42 := by omega
              go_wp2
              exact ret_whole rfl b1 rfl Hx1.out Tryz.underlying25 rfl (by kernel_rfl) rfl Hpost.out
            · go_wp2
              exact ret_whole rfl b1 rfl Hx1.out Tryz.underlying25 rfl (by kernel_rfl) rfl Hpost.out
theorem few8_step {w0 : World} {A B : Option Addr} {n c m k : Nat} {Vs : List VC} {Es : List EC} (h : DgIn w0 A n c Vs B m k Es) (hg : GoodD Vs Es) (hn : n ≤ maxLen) (hm : m ≤ maxLen) (W : World) (hb : Below w0.heap.size w0 W) :
    Calls Tryz.prog 7 #[.agg #[.slice A n c, .slice B m k]] W fun e W' => ∃ A' n' c' B' m' k', e = .returned (.agg #[.slice A' n' c', .slice B' m' k']) ∧
      Few7D w0 W W' A' n' c' ((Vs.take 26).map few7V) B' m' k' (Es.take 42) ∧ Below W.heap.size W W' := by
  refine (few8_any A n c Vs B m k Es W (h.below hb) hn hm).mono ?_
  rintro e W' ⟨A', c', B', k', rfl, hd, hbl, hf⟩
  refine ⟨A', _, c', B', _, k', rfl, ⟨hd, hg.few7, by rw [List.length_take]; omega, by rw [List.length_take]; omega, fun x hx => ?_, fun x hx a ha h0 => ?_, hf, by rw [List.length_map], rfl⟩, hbl⟩
  · obtain ⟨y, hy, rfl⟩ := List.mem_map.1 hx
    exact (few7V_ring y).2.1
  · obtain ⟨y, hy, rfl⟩ := List.mem_map.1 hx
    rw [(few7V_ring y).1] at ha
    exact (h.r y (List.mem_of_mem_take hy)).2.low a ha (Nat.lt_of_lt_of_le h0 (few7V_ring y).2.2.1)
end Go.Proofs.YtahbfdhjgnlmdaaGreat

/- pack.TakeNum. -/
namespace Go.Proofs.YtahbfdhjgnlmdaaGreat
open Go.RowKit
set_option linter.unusedSimpArgs false
set_option linter.unusedVariables false

end Go.Proofs.YtahbfdhjgnlmdaaGreat

/- pack.TakeText. -/
namespace Go.Proofs.YtahbfdhjgnlmdaaGreat
open Go.RowKit
set_option linter.unusedSimpArgs false
set_option linter.unusedVariables false

end Go.Proofs.YtahbfdhjgnlmdaaGreat

/- The document's Num, TakeNum, Text, TakeText. -/
namespace Go.Proofs.YtahbfdhjgnlmdaaGreat
open Go.RowKit
set_option linter.unusedSimpArgs false
set_option linter.unusedVariables false

theorem conv_str (s : ByteArray) (w : World) : ∃ c w', (convert 9 27 (.string s)).run Tryz.prog w = .ok (.slice (some ⟨w.heap.size, 0, none⟩) s.size c) w' ∧ RdS w' w'.heap.size 1 (some ⟨w.heap.size, 0, none⟩) s.size c (rowsV f8 (tB s)) ∧ Below w.heap.size w w' := by
  have h := run_bytes_of_string (P := Tryz.prog) w 9 27 5 s (Tryz.underlying9 ) (Tryz.underlying27 ) (Tryz.underlying5 )
  have hb : Below w.heap.size w (w.drew.alloc (.cells (bytesRow s (grownCap w s.size 0 5)) 5 ((bytesRow s (grownCap w s.size 0 5)).size, (bytesRow s (grownCap w s.size 0 5)).size + 1))) := (Below.refl _ w).drew.alloc (by simp) _
  have hr : ∀ j u, (rowsV f8 (tB s))[j]? = some u → (w.drew.alloc (.cells (bytesRow s (grownCap w s.size 0 5)) 5 ((bytesRow s (grownCap w s.size 0 5)).size, (bytesRow s (grownCap w s.size 0 5)).size + 1))).cell? ((⟨w.heap.size, 0, none⟩ : Addr).add j) = some u := fun j u hu => by
    have hj : j < s.data.size := by
      have := (List.getElem?_eq_some_iff.1 hu).1
      rw [rows8_len, tB_len] at this
      exact this
    rw [rows_get, tB_data, List.getElem?_map, Array.getElem?_toList, Array.getElem?_eq_getElem hj] at hu
    have hx := bytesRow_at s (grownCap w s.size 0 5) j hj
    have hu2 : some (Value.int .u8 (s.data[j].toNat : Int)) = some u := hu
    rw [hu2] at hx
    exact World.news_of_block (fr := _) (heap_alloc_new w.drew _) j u (by rw [Array.getElem?_toList]; exact hx)
  exact ⟨_, _, h, ⟨by rw [rows8_len, tB_len, Nat.mul_one], fun e => (by cases e), grownCap_ge _ _ _ _, fun a ha _ => (by obtain rfl := Option.some.inj ha; simp), fun a ha j u hu => (by obtain rfl := Option.some.inj ha; exact hr j u hu)⟩, hb⟩
theorem exec_convert_w {P : Program} {ev : Operand → Value} {o : Oper} {w w' : World} (s d : TypeId) (x : Operand) (ho : o.op = .convert s d x) {v u : Value} (hx : ev x = v) (hrun : (convert s d v).run P w = .ok u w') : (execOp ev o).run P w = .ok (.value u) w' := by
  unfold execOp
  simp only [ho, hx, Sem.run_bind, Sem.run_pure, Result.andThen_ok, hrun]
theorem beN_get : ∀ (k U j : Nat), j < k → (beN k U)[j]? = some (U / 256 ^ (k - 1 - j) % 256)
  | 0, U, j, h => by omega
  | k + 1, U, 0, h => by rw [beN_cons]; rfl
  | k + 1, U, j + 1, h => by
    rw [beN_cons, List.getElem?_cons_succ, beN_get k U j (by omega)]
    rw [show k + 1 - 1 - (j + 1) = k - 1 - j by omega]

end Go.Proofs.YtahbfdhjgnlmdaaGreat

/- A dart that stands at another vertex, or at two: what a caller needs; a diagram whose rings are replaced one by one. -/
namespace Go.Proofs.YtahbfdhjgnlmdaaGreat
open Go.RowKit
set_option linter.unusedSimpArgs false
set_option linter.unusedVariables false


/-- A cell that holds what a row does not hold is none of the row's. -/
theorem rds_poke {w : World} {B s n c : Nat} {A : Option Addr} {xs : List Value} (h : RdS w B s A n c xs) {p : Addr} {v : Value} (hp : w.cell? p = some v) (hv : ¬ v ∈ xs) (u : Value) : RdS (w.setCell p u) B s A n c xs :=
  ⟨h.len, h.none_, h.le, h.low, fun a ha j z hz => by
    have h1 := h.cell a ha j z hz
    by_cases e : p = a.add j
    · rw [← e, hp] at h1
      obtain rfl := Option.some.inj h1
      exact absurd (List.mem_of_getElem? hz) hv
    · rw [World.cell?_setCell_other _ _ _ _ e]
      exact h1⟩
theorem size_setCell (w : World) (p : Addr) (u : Value) : (w.setCell p u).heap.size = w.heap.size := by simp
theorem rowsV_mem {α : Type} {f : α → List Value} : ∀ {L : List α} {v : Value}, v ∈ rowsV f L → ∃ x ∈ L, v ∈ f x := by
  intro L
  induction L with
  | nil => intro v h; cases h
  | cons a r ih =>
    intro v h
    rcases List.mem_append.1 (show v ∈ f a ++ rowsV f r from h) with h | h
    · exact ⟨a, List.mem_cons_self .., h⟩
    · obtain ⟨x, hx, h2⟩ := ih h
      exact ⟨x, List.mem_cons_of_mem _ hx, h2⟩
theorem no_slice_e {Es : List EC} {A : Option Addr} {n c : Nat} : ¬ Value.slice A n c ∈ rowsV eC Es := fun h => by
  obtain ⟨x, _, hx⟩ := rowsV_mem h
  simp [eC] at hx
theorem no_slice_d {L : List D} {A : Option Addr} {n c : Nat} : ¬ Value.slice A n c ∈ dartsV L := fun h => by
  rw [dartsV_rows] at h
  obtain ⟨x, _, hx⟩ := rowsV_mem h
  simp [dC] at hx
/-- A diagram whose vertices are of one's own. -/
structure Wr (W : World) (lo : Nat) (A : Option Addr) (n c : Nat) (Us : List VC) (B : Option Addr) (m k : Nat) (Es : List EC) : Prop where
  v : W.ownsRow lo 47 5 (.slice A n c) n (rowsV vC Us)
  e : RdS W W.heap.size 4 B m k (rowsV eC Es)
  r : ∀ x ∈ Us, RgOk W x.2.1
section
variable {W W' : World} {lo : Nat} {A : Option Addr} {n c : Nat} {Us : List VC} {B : Option Addr} {m k : Nat} {Es : List EC}
theorem Cl.wr (h : Cl W lo A n c Us B m k Es) : Wr W lo A n c Us B m k Es := ⟨h.v, h.dg.e, h.dg.r⟩
theorem Wr.dg (h : Wr W lo A n c Us B m k Es) : DgIn W A n c Us B m k Es := ⟨own_rds h.v, h.e, h.r⟩
theorem Wr.bl (h : Wr W lo A n c Us B m k Es) (hb : Below W.heap.size W W') : Wr W' lo A n c Us B m k Es := ⟨own_up h.v hb, h.e.bl hb, fun x hx => (h.r x hx).bl hb⟩
theorem Wr.al (h : Wr W lo A n c Us B m k Es) (o : Obj) : Wr (W.alloc o) lo A n c Us B m k Es := h.bl (below1 W o)
theorem Wr.dr (h : Wr W lo A n c Us B m k Es) : Wr W.drew lo A n c Us B m k Es := h.bl ((Below.refl _ _).drew)
theorem rg_poke {g i : Nat} {R : Rg} (h : RgOk W R) {A1 : Option Addr} {n1 c1 : Nat} (hp : W.cell? ⟨g, i, none⟩ = some (.slice A1 n1 c1)) (u : Value) : RgOk (W.setCell ⟨g, i, none⟩ u) R :=
  ⟨h.1, by rw [size_setCell]; exact rds_poke h.2 hp no_slice_d u⟩
theorem Wr.put (h : Wr W lo A n c Us B m k Es) {j : Nat} {x : VC} (hx : Us[j]? = some x) (hj : j < n) (R : Rg) (hR : RgOk W R) :
    ∃ g, A = some ⟨g, 0, none⟩ ∧ lo ≤ g ∧ (∃ cs, Whole W g 47 cs) ∧ W.cell? ⟨g, j * 5 + 2, none⟩ = some (.slice x.2.1.1 x.2.1.2.1 x.2.1.2.2.1) ∧ W.frozen? ⟨g, j * 5 + 2, none⟩ = false ∧
      Wr (W.setCell ⟨g, j * 5 + 2, none⟩ (.slice R.1 R.2.1 R.2.2.1)) lo A n c (Us.set j (x.1, R, x.2.2)) B m k Es := by
  obtain ⟨g, junk, e, hlo, hw, hc, hf, ho⟩ := own_poke (i := 2) (y := (x.1, R, x.2.2)) (u := .slice R.1 R.2.1 R.2.2.1) vC_len h.v hx hj (by omega) rfl
  have hc2 : W.cell? ⟨g, j * 5 + 2, none⟩ = some (.slice x.2.1.1 x.2.1.2.1 x.2.1.2.2.1) := hc.trans rfl
  refine ⟨g, e, hlo, ⟨_, hw⟩, hc2, hf, ho, by rw [size_setCell]; exact rds_poke h.e hc2 no_slice_e _, fun y hy => rg_poke ?_ hc2 _⟩
  rcases List.mem_or_eq_of_mem_set hy with hy | rfl
  · exact h.r y hy
  · exact hR
end
end Go.Proofs.YtahbfdhjgnlmdaaGreat

/- The document's Clone. -/
namespace Go.Proofs.YtahbfdhjgnlmdaaGreat
open Go.RowKit
set_option linter.unusedSimpArgs false
set_option linter.unusedVariables false


/-- What is appended onto an empty row just made is a row of one's own. -/
theorem fresh_copy {P : Program} (W : World) (t ty e : TypeId) (i : TypeInfo) (z : Value) (size bytes : Nat) (ht : P.underlying t = some (.slice e)) (hi : P.info? e = some i) (hz : i.zero = some z) (hsize : i.size = size) (hby : i.bytes = bytes) (hzs : z.cells.size = size) (hs0 : 0 < size)
    (A : Option Addr) (m c : Nat) (news : List Value) (hr : RdS W W.heap.size size A m c news) (h1 : ∀ u ∈ news, u.oneCell' = true) (hm : m ≤ 1000000) (hb : bytes ≤ 100) :
    ∃ A' c' W', (Builtin.append_ #[t, t] ty #[.slice (some ⟨W.heap.size, 0, none⟩) 0 0, .slice A m c]).run P (W.alloc (.cells #[] e)) = .ok (.slice A' m c') W' ∧ W'.ownsRow W.heap.size e size (.slice A' m c') m news ∧ Below W.heap.size W W' := by
  have how : Ow W W.heap.size e size (.slice (some ⟨W.heap.size, 0, none⟩) 0 0) 0 [] (W.alloc (.cells #[] e)) := ⟨World.ownsRow_made W #[] 0 (Nat.le_refl _) (Nat.zero_le _) (by simp), bel_al (Below.refl _ W) _, Nat.le_refl _, by simp⟩
  have hsum : (0 + m) * bytes ≤ 140737488355328 := Nat.le_trans (Nat.mul_le_mul_left _ hb) (by omega)
  obtain ⟨v', W', hrun, ho, hb2, hg, -⟩ := Ow.app2 (P := P) t ty e i z size bytes W.heap.size ht hi hz hsize hby hzs hs0 _ _ _ how _ A m c news (hr.al (.cells #[] e)) h1 (by unfold maxLen; omega) hsum
  rw [Nat.zero_add, List.nil_append] at ho
  obtain ⟨A', c', rfl, -⟩ := ho.rds
  exact ⟨A', c', W', hrun, ho.own, ho.below⟩
/-- A diagram that is copied, vertex by vertex. -/
structure ClS (W : World) (lo : Nat) (A : Option Addr) (n c : Nat) (Ws : List VC) (B : Option Addr) (m k : Nat) (Es : List EC) : Prop where
  v : W.ownsRow lo 47 5 (.slice A n c) n (rowsV vC Ws)
  e : W.ownsRow lo 43 4 (.slice B m k) m (rowsV eC Es)
  r : ∀ x ∈ Ws, W.ownsRow lo 49 3 (.slice x.2.1.1 x.2.1.2.1 x.2.1.2.2.1) x.2.1.2.1 (dartsV x.2.1.2.2.2)
section
variable {W W' : World} {lo : Nat} {A : Option Addr} {n c : Nat} {Ws : List VC} {B : Option Addr} {m k : Nat} {Es : List EC}
theorem ClS.bl (h : ClS W lo A n c Ws B m k Es) (hb : Below W.heap.size W W') : ClS W' lo A n c Ws B m k Es := ⟨own_up h.v hb, own_up h.e hb, fun x hx => own_up (h.r x hx) hb⟩
theorem ClS.al (h : ClS W lo A n c Ws B m k Es) (o : Obj) : ClS (W.alloc o) lo A n c Ws B m k Es := h.bl (below1 W o)
theorem ClS.wr (h : ClS W lo A n c Ws B m k Es) : Wr W lo A n c Ws B m k Es := ⟨h.v, own_rds h.e, fun x hx => ⟨own_cap (h.r x hx), own_rds (h.r x hx)⟩⟩
end
end Go.Proofs.YtahbfdhjgnlmdaaGreat

/- The document's Num. -/
namespace Go.Proofs.YtahbfdhjgnlmdaaGreat
open Go.RowKit
set_option linter.unusedSimpArgs false
set_option linter.unusedVariables false

set_option maxRecDepth 100000 in
set_option maxHeartbeats 4000000 in
theorem rnum_any (A : Option Addr) (c : Nat) (L : List Nat) (x : Int) (w : World) (h : RdS w w.heap.size 1 A L.length c (rowsV f8 L)) (hn : L.length ≤ 900000) :
    Calls Tryz.prog 16 #[.slice A L.length c, .int .i64 x] w (Gives8 w (L ++ be8 x)) := by
  obtain ⟨i0, hi, hz0, hz1, hz2⟩ := info_parts_ info_u8
  obtain ⟨A1, c1, w1, hrun, how, hbw⟩ := fresh_copy (P := Tryz.prog) w 27 27 5 i0 _ 1 1 Tryz.underlying27 hi hz0 hz1 hz2 rfl (by decide) A L.length c _ h (f8_all L) (by omega) (by decide)
  have hx := wrap_u64_ x
  have hU := u64_lt x
  have e8 : L ++ be8 x = L ++ (beN 8 (u64 x)).take 8 := by
    rw [List.take_of_length_le (by rw [beN_len]; omega)]
    rfl
  rw [e8]
  obtain ⟨U, gU⟩ : ∃ U, u64 x = U := ⟨_, rfl⟩
  rw [gU] at hx hU ⊢
  have Hn : RowKit.Hid (L.length ≤ 900000) := Lib.hid hn
  have HU := Lib.hid hU
  have Hx := Lib.hid hx
  have HO1 : RowKit.Hid (Ow w w.heap.size 5 1 (.slice A1 L.length c1) L.length (rowsV f8 (L ++ (beN 8 U).take 0)) w1) := Lib.hid (by rw [List.take_zero, List.append_nil]; exact ⟨how, hbw, Nat.le_refl _, hbw.size⟩)
  have Hl8 : RowKit.Hid ((L ++ (beN 8 U).take 8).length = L.length + 8) := Lib.hid (by rw [List.length_append, List.length_take, beN_len]; rfl)
  obtain ⟨n, gn⟩ : ∃ n, L.length = n := ⟨_, rfl⟩
  rw [gn] at hrun HO1 Hn Hl8 ⊢
  clear h hn e8 gU hU hx how hbw gn hi hz0 hz1 hz2
  go_enter Tryz.func16, Tryz.ntmps16
  go_upto_region 2 with (first
    | (at_builtin
       refine wl_run (some 9) rfl (by rfl) (exec_append (by rfl) (by rfl) (by rfl) hrun) ?_))
  clear hrun
  go_wp2
  go_loopw [5, 6] (fun v si wr => ∃ (k N : Nat) (A2 : Option Addr) (c2 : Nat), k ≤ 8 ∧ si = .int .i64 (7 - (k : Int)) ∧ v = .slice A2 N c2 ∧ RowKit.Hid (N = n + k) ∧ RowKit.Hid (Ow w w.heap.size 5 1 (.slice A2 N c2) N (rowsV f8 (L ++ (beN 8 U).take k)) wr)) (fun _ si _ => (intOf si + 1).toNat)
  case atStart => exact ⟨0, n, A1, c1, by omega, rfl, rfl, Lib.hid rfl, HO1⟩
  case round =>
    clear HO1
    obtain ⟨k, N, A2, c2, hk, rfl, rfl, HN, HO⟩ := hrel
    by_cases hlt : k < 8
    · have hb := beN_get 8 U k hlt
      obtain ⟨db, gdb⟩ : ∃ z, U / 256 ^ (8 - 1 - k) % 256 = z := ⟨_, rfl⟩
      rw [gdb] at hb
      have hnx : (beN 8 U).take k ++ [db] = (beN 8 U).take (k + 1) := by rw [List.take_add_one, hb]; rfl
      have Hnx := Lib.hid hnx
      obtain ⟨A3, c3, w3, hrun, ho3, hg3⟩ := app8 27 (Ow.up HO.out (below1 wr (.cells #[.int .u8 (db : Int)] 5))) (one8 wr db) (by have := HN.out; have := Hn.out; omega)
      rw [List.append_assoc, hnx] at ho3
      have HO3 := Lib.hid ho3
      have hx := Hx.out
      have hd0 : decide ((0 : Int) ≤ 7 - (k : Int)) = true := decide_eq_true (by omega)
      have hsb : IntKind.i64.wrap (7 - (k : Int) - 1) = 7 - ((k + 1 : Nat) : Int) := by rw [IntWalk.i64_in _ (by omega)]; omega
      have h8m : IntKind.i64.wrap (8 * (7 - (k : Int))) = ((8 * (7 - k) : Nat) : Int) := by rw [IntWalk.i64_in _ (by omega)]; omega
      clear hb hnx ho3 hg3
      have hcs : k = 0 ∨ k = 1 ∨ k = 2 ∨ k = 3 ∨ k = 4 ∨ k = 5 ∨ k = 6 ∨ k = 7 := by omega
      rcases hcs with rfl | rfl | rfl | rfl | rfl | rfl | rfl | rfl
      · have hw8 : IntKind.u8.wrap ((U : Int) / 72057594037927936) = (db : Int) := by rw [IntKind.wrap_u8]; have h9 : U / 72057594037927936 % 256 = db := gdb; omega
        have hw9 : IntKind.i64.wrap 56 = 56 := rfl
        have hd1 : decide ((0 : Int) ≤ 7) = true := rfl
        replace hsb : IntKind.i64.wrap (7 - 1) = 7 - ((1 : Nat) : Int) := hsb
        clear hd0 h8m gdb hlt hk
        rw [show (7 : Int) - ((0 : Nat) : Int) = 7 from rfl]
        go_wp2_with (first
          | (at_builtin
             refine wl_run (some 22) rfl (by rfl) (exec_append (by rfl) (by rfl) (by rfl) hrun) ?_))
        go_roundw
        case rel => exact ⟨1, N + 1, A3, c3, by omega, by first | rfl | simp, rfl, Lib.hid (by have := HN.out; omega), HO3⟩
        case measure => first | (simp [intOf]; done) | (simp [intOf]; omega) | decide
      · have hw8 : IntKind.u8.wrap ((U : Int) / 281474976710656) = (db : Int) := by rw [IntKind.wrap_u8]; have h9 : U / 281474976710656 % 256 = db := gdb; omega
        have hw9 : IntKind.i64.wrap 48 = 48 := rfl
        have hd1 : decide ((0 : Int) ≤ 6) = true := rfl
        replace hsb : IntKind.i64.wrap (6 - 1) = 7 - ((2 : Nat) : Int) := hsb
        clear hd0 h8m gdb hlt hk
        rw [show (7 : Int) - ((1 : Nat) : Int) = 6 from rfl]
        go_wp2_with (first
          | (at_builtin
             refine wl_run (some 22) rfl (by rfl) (exec_append (by rfl) (by rfl) (by rfl) hrun) ?_))
        go_roundw
        case rel => exact ⟨2, N + 1, A3, c3, by omega, by first | rfl | simp, rfl, Lib.hid (by have := HN.out; omega), HO3⟩
        case measure => first | (simp [intOf]; done) | (simp [intOf]; omega) | decide
      · have hw8 : IntKind.u8.wrap ((U : Int) / 1099511627776) = (db : Int) := by rw [IntKind.wrap_u8]; have h9 : U / 1099511627776 % 256 = db := gdb; omega
        have hw9 : IntKind.i64.wrap 40 = 40 := rfl
        have hd1 : decide ((0 : Int) ≤ 5) = true := rfl
        replace hsb : IntKind.i64.wrap (5 - 1) = 7 - ((3 : Nat) : Int) := hsb
        clear hd0 h8m gdb hlt hk
        rw [show (7 : Int) - ((2 : Nat) : Int) = 5 from rfl]
        go_wp2_with (first
          | (at_builtin
             refine wl_run (some 22) rfl (by rfl) (exec_append (by rfl) (by rfl) (by rfl) hrun) ?_))
        go_roundw
        case rel => exact ⟨3, N + 1, A3, c3, by omega, by first | rfl | simp, rfl, Lib.hid (by have := HN.out; omega), HO3⟩
        case measure => first | (simp [intOf]; done) | (simp [intOf]; omega) | decide
      · have hw8 : IntKind.u8.wrap ((U : Int) / 4294967296) = (db : Int) := by rw [IntKind.wrap_u8]; have h9 : U / 4294967296 % 256 = db := gdb; omega
        have hw9 : IntKind.i64.wrap 32 = 32 := rfl
        have hd1 : decide ((0 : Int) ≤ 4) = true := rfl
        replace hsb : IntKind.i64.wrap (4 - 1) = 7 - ((4 : Nat) : Int) := hsb
        clear hd0 h8m gdb hlt hk
        rw [show (7 : Int) - ((3 : Nat) : Int) = 4 from rfl]
        go_wp2_with (first
          | (at_builtin
             refine wl_run (some 22) rfl (by rfl) (exec_append (by rfl) (by rfl) (by rfl) hrun) ?_))
        go_roundw
        case rel => exact ⟨4, N + 1, A3, c3, by omega, by first | rfl | simp, rfl, Lib.hid (by have := HN.out; omega), HO3⟩
        case measure => first | (simp [intOf]; done) | (simp [intOf]; omega) | decide
      · have hw8 : IntKind.u8.wrap ((U : Int) / 16777216) = (db : Int) := by rw [IntKind.wrap_u8]; have h9 : U / 16777216 % 256 = db := gdb; omega
        have hw9 : IntKind.i64.wrap 24 = 24 := rfl
        have hd1 : decide ((0 : Int) ≤ 3) = true := rfl
        replace hsb : IntKind.i64.wrap (3 - 1) = 7 - ((5 : Nat) : Int) := hsb
        clear hd0 h8m gdb hlt hk
        rw [show (7 : Int) - ((4 : Nat) : Int) = 3 from rfl]
        go_wp2_with (first
          | (at_builtin
             refine wl_run (some 22) rfl (by rfl) (exec_append (by rfl) (by rfl) (by rfl) hrun) ?_))
        go_roundw
        case rel => exact ⟨5, N + 1, A3, c3, by omega, by first | rfl | simp, rfl, Lib.hid (by have := HN.out; omega), HO3⟩
        case measure => first | (simp [intOf]; done) | (simp [intOf]; omega) | decide
      · have hw8 : IntKind.u8.wrap ((U : Int) / 65536) = (db : Int) := by rw [IntKind.wrap_u8]; have h9 : U / 65536 % 256 = db := gdb; omega
        have hw9 : IntKind.i64.wrap 16 = 16 := rfl
        have hd1 : decide ((0 : Int) ≤ 2) = true := rfl
        replace hsb : IntKind.i64.wrap (2 - 1) = 7 - ((6 : Nat) : Int) := hsb
        clear hd0 h8m gdb hlt hk
        rw [show (7 : Int) - ((5 : Nat) : Int) = 2 from rfl]
        go_wp2_with (first
          | (at_builtin
             refine wl_run (some 22) rfl (by rfl) (exec_append (by rfl) (by rfl) (by rfl) hrun) ?_))
        go_roundw
        case rel => exact ⟨6, N + 1, A3, c3, by omega, by first | rfl | simp, rfl, Lib.hid (by have := HN.out; omega), HO3⟩
        case measure => first | (simp [intOf]; done) | (simp [intOf]; omega) | decide
      · have hw8 : IntKind.u8.wrap ((U : Int) / 256) = (db : Int) := by rw [IntKind.wrap_u8]; have h9 : U / 256 % 256 = db := gdb; omega
        have hw9 : IntKind.i64.wrap 8 = 8 := rfl
        have hd1 : decide ((0 : Int) ≤ 1) = true := rfl
        replace hsb : IntKind.i64.wrap (1 - 1) = 7 - ((7 : Nat) : Int) := hsb
        clear hd0 h8m gdb hlt hk
        rw [show (7 : Int) - ((6 : Nat) : Int) = 1 from rfl]
        go_wp2_with (first
          | (at_builtin
             refine wl_run (some 22) rfl (by rfl) (exec_append (by rfl) (by rfl) (by rfl) hrun) ?_))
        go_roundw
        case rel => exact ⟨7, N + 1, A3, c3, by omega, by first | rfl | simp, rfl, Lib.hid (by have := HN.out; omega), HO3⟩
        case measure => first | (simp [intOf]; done) | (simp [intOf]; omega) | decide
      · have hw8 : IntKind.u8.wrap ((U : Int)) = (db : Int) := by rw [IntKind.wrap_u8]; have h9 : U / 1 % 256 = db := gdb; omega
        have hw9 : IntKind.i64.wrap 0 = 0 := rfl
        have hd1 : decide ((0 : Int) ≤ 0) = true := rfl
        replace hsb : IntKind.i64.wrap (0 - 1) = 7 - ((8 : Nat) : Int) := hsb
        clear hd0 h8m gdb hlt hk
        rw [show (7 : Int) - ((7 : Nat) : Int) = 0 from rfl]
        go_wp2_with (first
          | (at_builtin
             refine wl_run (some 22) rfl (by rfl) (exec_append (by rfl) (by rfl) (by rfl) hrun) ?_))
        go_roundw
        case rel => exact ⟨8, N + 1, A3, c3, by omega, by first | rfl | simp, rfl, Lib.hid (by have := HN.out; omega), HO3⟩
        case measure => first | (simp [intOf]; done) | (simp [intOf]; omega) | decide
    · obtain rfl : k = 8 := by omega
      have hd0 : decide ((0 : Int) ≤ 7 - ((8 : Nat) : Int)) = false := rfl
      have HG : RowKit.Hid (∃ A c, Value.slice A2 N c2 = .slice A N c ∧ Gives8 w (L ++ (beN 8 U).take 8) (.returned (.slice A N c)) wr) := Lib.hid (gives8_ow (by rw [Hl8.out, HN.out]) HO.out)
      clear hlt hk
      go_wp2
      go_ret
      obtain ⟨A9, c9, e9, h9⟩ := HG.out
      injection e9 with a1 a2 a3
      subst a1 a3
      exact h9
end Go.Proofs.YtahbfdhjgnlmdaaGreat

/- The document's Text, TakeNum, TakeText. -/
namespace Go.Proofs.YtahbfdhjgnlmdaaGreat
open Go.RowKit
set_option linter.unusedSimpArgs false
set_option linter.unusedVariables false

set_option maxRecDepth 100000 in
set_option maxHeartbeats 4000000 in
theorem rtext_any (A : Option Addr) (c : Nat) (L : List Nat) (s : ByteArray) (w : World) (h : RdS w w.heap.size 1 A L.length c (rowsV f8 L)) (hn : L.length ≤ 900000) (hs : s.size ≤ 10000) :
    Calls Tryz.prog 17 #[.slice A L.length c, .string s] w (Gives8 w (L ++ textB s)) := by
  obtain ⟨i0, hi, hz0, hz1, hz2⟩ := info_parts_ info_u8
  obtain ⟨A1, c1, w1, hrun, how, hbw⟩ := fresh_copy (P := Tryz.prog) w 27 27 5 i0 _ 1 1 Tryz.underlying27 hi hz0 hz1 hz2 rfl (by decide) A L.length c _ h (f8_all L) (by omega) (by decide)
  have ho1 : Ow w w.heap.size 5 1 (.slice A1 L.length c1) L.length (rowsV f8 L) w1 := ⟨how, hbw, Nat.le_refl _, hbw.size⟩
  have e1 : (L ++ [s.size % 256] ++ tB s).length = L.length + 1 + s.size := by simp [tB_len]; omega
  rw [show L ++ textB s = L ++ [s.size % 256] ++ tB s from by rw [textB, List.append_assoc]]
  obtain ⟨S, gS⟩ : ∃ S, s.size = S := ⟨_, rfl⟩
  have Hs := Lib.hid gS
  have hsz : (s.size : Int) = (S : Int) := by rw [gS]
  rw [gS] at e1 hs ⊢
  have hw8 : IntKind.u8.wrap (S : Int) = ((S % 256 : Nat) : Int) := by rw [IntKind.wrap_u8]; omega
  obtain ⟨S8, gS8⟩ : ∃ z, S % 256 = z := ⟨_, rfl⟩
  rw [gS8] at e1 hw8 ⊢
  obtain ⟨A2, c2, w2, hrun2, ho2, -⟩ := app8 27 (Ow.up ho1 (below1 w1 (.cells #[.int .u8 (S8 : Int)] 5))) (one8 w1 S8) (by omega)
  obtain ⟨c3, w3, hrun3, hr3, hb3⟩ := conv_str s w2
  rw [gS] at hrun3 hr3
  obtain ⟨A4, c4, w4, hrun4, ho4, -⟩ := app8 27 (Ow.up ho2 hb3) hr3 (by omega)
  have He1 := Lib.hid e1
  have HO4 := Lib.hid ho4
  obtain ⟨n, gn⟩ : ∃ n, L.length = n := ⟨_, rfl⟩
  rw [gn] at hrun hrun2 hrun4 HO4 He1 ⊢
  clear h hn how hbw ho1 ho2 hr3 hb3 ho4 e1 gn gS gS8 hi hz0 hz1 hz2 hs
  go_enter Tryz.func17, Tryz.ntmps17
  go_upto_region 2 with (first
    | (at_builtin
       refine wl_run (some 8) rfl (by rfl) (exec_append (by rfl) (by rfl) (by rfl) hrun) ?_))
  clear hrun
  go_upto_region 3 with (first
    | (at_builtin
       refine wl_run (some 14) rfl (by rfl) (exec_append (by rfl) (by rfl) (by rfl) hrun2) ?_))
  clear hrun2
  refine wp_region_lit ?_
  refine wl_read (v := ?_) (some 15) rfl (by rfl) ?_ ?_
  rotate_left
  · go_simp; (try with_reducible rfl)
  simp only [Act.put, List.setIfInBounds_toArray, List.set_cons_zero, List.set_cons_succ]
  refine wl_read (v := ?_) (some 16) rfl (by rfl) ?_ ?_
  rotate_left
  · go_simp; (try with_reducible rfl)
  simp only [Act.put, List.setIfInBounds_toArray, List.set_cons_zero, List.set_cons_succ]
  refine wl_run (some 17) rfl (by rfl) (exec_convert_w 9 27 (.tmp 16) rfl rfl hrun3) ?_
  simp only [Act.put, List.setIfInBounds_toArray, List.set_cons_zero, List.set_cons_succ]
  clear hrun3
  go_wp2_with (first
    | (at_builtin
       refine wl_run (some 18) rfl (by rfl) (exec_append (by rfl) (by rfl) (by rfl) hrun4) ?_))
  go_ret
  obtain ⟨A9, c9, e9, h9⟩ := gives8_ow He1.out HO4.out
  injection e9 with a1 a2 a3
  subst a1 a3
  exact h9
end Go.Proofs.YtahbfdhjgnlmdaaGreat

/- The document's TakeText. -/
namespace Go.Proofs.YtahbfdhjgnlmdaaGreat
open Go.RowKit
set_option linter.unusedSimpArgs false
set_option linter.unusedVariables false

end Go.Proofs.YtahbfdhjgnlmdaaGreat

/- What Put tells, in one. -/
namespace Go.Proofs.YtahbfdhjgnlmdaaGreat
open Go.RowKit
set_option linter.unusedSimpArgs false
set_option linter.unusedVariables false

/-- What Put lays down, and nothing where it says that the diagram may not be. -/
def pb (Vs : List VC) (Es : List EC) : List Nat := if mayF7 Vs Es = 0 then putD (Vs.map vS) Es else []
theorem put8_any (A : Option Addr) (n c : Nat) (Vs : List VC) (B : Option Addr) (m k : Nat) (Es : List EC) (w : World) (h : DgIn w A n c Vs B m k Es) (hg : GoodD Vs Es) (hr : ∀ x ∈ Vs, x.2.1.2.1 ≤ 1000000) :
    Calls Tryz.prog 6 #[.agg #[.slice A n c, .slice B m k]] w fun e w' => ∃ A' c', e = .returned (.tuple #[.slice A' (pb Vs Es).length c', .int .i64 (mayF7 Vs Es)]) ∧ w'.ownsRow w.heap.size 5 1 (.slice A' (pb Vs Es).length c') (pb Vs Es).length (rowsV f8 (pb Vs Es)) ∧ Below w.heap.size w w' := by
  by_cases hm : mayF7 Vs Es = 0
  · have h9 := put_yes A n c Vs B m k Es w h hg hr hm
    unfold pb
    rw [if_pos hm, hm]
    exact h9
  · refine (put_not A n c Vs B m k Es w h hg hr hm).mono ?_
    rintro e w' ⟨rfl, hb⟩
    unfold pb
    rw [if_neg hm]
    exact ⟨none, 0, rfl, World.ownsRow_nil w' w.heap.size 5 1, hb⟩
end Go.Proofs.YtahbfdhjgnlmdaaGreat

/- The document's place (of an edge), Put (of a name). -/
namespace Go.Proofs.YtahbfdhjgnlmdaaGreat
open Go.RowKit
set_option linter.unusedSimpArgs false
set_option linter.unusedVariables false

def rplF : Nat → List EC → Int × Int → Nat
  | _, [], _ => 0
  | j, e :: L, x => if e.1 = x then j else rplF (j + 1) L x
theorem rplF_idx : ∀ (L : List EC) (j : Nat) (x : Int × Int), x ∈ L.map (·.1) → rplF j L x = j + (L.map (·.1)).idxOf x
  | [], _, _, h => by cases h
  | e :: L, j, x, h => by
    unfold rplF
    rw [List.map_cons, List.idxOf_cons]
    by_cases hx : e.1 = x
    · rw [if_pos hx, hx]
      simp
    · have h9 : x ∈ L.map (·.1) := by
        rcases List.mem_cons.1 h with q | q
        · exact absurd q.symm hx
        · exact q
      rw [if_neg hx, rplF_idx L (j + 1) x h9, cond_eq_ite, if_neg (by simpa using hx)]
      omega
theorem rplF_pl {Es : List EC} {x : Int × Int} (h : x ∈ Es.map (·.1)) : rplF 0 Es x = plE Es x := by
  rw [rplF_idx Es 0 x h, Nat.zero_add]
  rfl
set_option maxRecDepth 100000 in
set_option maxHeartbeats 4000000 in
theorem rplace8_any (A : Option Addr) (n c : Nat) (B : Option Addr) (m k : Nat) (Es : List EC) (x1 x2 : Int) (w : World) (h : RdS w w.heap.size 4 B m k (rowsV eC Es)) (hm : m ≤ 1000000) :
    Calls Tryz.prog 19 #[.agg #[.slice A n c, .slice B m k], .agg #[.int .i64 x1, .int .i64 x2]] w fun e w' => e = .returned (.int .i64 (rplF 0 Es (x1, x2) : Nat)) ∧ Below w.heap.size w w' := by
  have HV := Lib.hid h
  have Hlv := Lib.hid (h.rlen eC_len (by decide))
  obtain ⟨p, gp⟩ : ∃ z, rplF 0 Es (x1, x2) = z := ⟨_, rfl⟩
  have HP := Lib.hid gp
  rw [gp]
  clear h gp
  go_enter Tryz.func19, Tryz.ntmps19
  go_upto_region 1 with fail
  have hx0 : Whole ((w.alloc (.cells #[.slice A n c, .slice B m k] 25)).alloc (.cells #[.int .i64 x1, .int .i64 x2] 41)) (w.heap.size) 25 [.slice A n c, .slice B m k] := ((Whole.new_ w 25 [.slice A n c, .slice B m k]).alloc (.cells #[.int .i64 x1, .int .i64 x2] 41))
  have hx1 : Whole ((w.alloc (.cells #[.slice A n c, .slice B m k] 25)).alloc (.cells #[.int .i64 x1, .int .i64 x2] 41)) (w.heap.size + 1) 41 [.int .i64 x1, .int .i64 x2] := (Whole.new2 (w := (w.alloc (.cells #[.slice A n c, .slice B m k] 25))) (by simp))
  have hbl : Below w.heap.size w ((w.alloc (.cells #[.slice A n c, .slice B m k] 25)).alloc (.cells #[.int .i64 x1, .int .i64 x2] 41)) := (bel_al (below1 w (.cells #[.slice A n c, .slice B m k] 25)) (.cells #[.int .i64 x1, .int .i64 x2] 41))
  have hsz : w.heap.size + 1 + 1 ≤ (((w.alloc (.cells #[.slice A n c, .slice B m k] 25)).alloc (.cells #[.int .i64 x1, .int .i64 x2] 41))).heap.size := by simp
  obtain ⟨W0, gW0⟩ : ∃ z, ((w.alloc (.cells #[.slice A n c, .slice B m k] 25)).alloc (.cells #[.int .i64 x1, .int .i64 x2] 41)) = z := ⟨_, rfl⟩
  rw [gW0] at hx0 hx1 hbl hsz
  obtain ⟨b1, gb1⟩ : ∃ z, w.heap.size + 1 = z := ⟨_, rfl⟩
  rw [gb1] at hx1
  obtain ⟨b0, gb0⟩ : ∃ z, w.heap.size = z := ⟨_, rfl⟩
  rw [gb0] at hx0
  have HX0 := Lib.hid hx0
  have HX1 := Lib.hid hx1
  have HB0 := Lib.hid hbl
  have HS0 := Lib.hid hsz
  have Gb0 := Lib.hid gb0
  have Lb0 : RowKit.Hid (w.heap.size ≤ b0) := Lib.hid (by omega)
  have Gb1 := Lib.hid gb1
  have Lb1 : RowKit.Hid (w.heap.size ≤ b1) := Lib.hid (by omega)
  have N01 : RowKit.Hid (b0 ≠ b1) := Lib.hid (by omega)
  rw [gW0, gb1, gb0]
  clear gW0 hbl hsz hx0 hx1 gb0 gb1
  go_wp2
  go_loopw [5] (fun si wr => ∃ j : Nat, j ≤ m ∧ si = .int .i64 j ∧ RowKit.Hid (Below W0.heap.size W0 wr) ∧ RowKit.Hid (p = rplF j (Es.drop j) (x1, x2))) (fun si _ => m - (intOf si).toNat)
  case atStart => exact ⟨0, by omega, rfl, Lib.hid (Below.refl _ _), Lib.hid HP.out.symm⟩
  case round =>
    obtain ⟨j, hj, rfl, HBr, HE⟩ := hrel
    obtain ⟨wo, gwo⟩ : ∃ z, wr = z := ⟨_, rfl⟩
    rw [gwo] at HBr ⊢
    clear gwo
    have HXo := Lib.hid (HX0.out.bl HBr.out)
    have HYo := Lib.hid (HX1.out.bl HBr.out)
    have cb := HXo.out.cell (i := 1) rfl
    by_cases hjn : j < m
    · obtain ⟨v, hx⟩ : ∃ v, Es[j]? = some v := ⟨_, List.getElem?_eq_getElem (by have := Hlv.out; omega)⟩
      have hdr : Es.drop j = v :: Es.drop (j + 1) := by
        rw [List.drop_eq_getElem_cons (List.getElem?_eq_some_iff.1 hx).1, (List.getElem?_eq_some_iff.1 hx).2]
      have HE2 := HE.out
      rw [hdr, rplF] at HE2
      have HE3 := Lib.hid HE2
      have HB := Lib.hid (HB0.out.trans (HBr.out.mono HB0.out.size))
      obtain ⟨bb, off, rfl, hbB, hpl⟩ := HV.out.place eC_len (by decide) (by omega)
      have hbw := HB.out
      have q0 := hpl j _ hx 0 _ rfl
      have q1 := hpl j _ hx 1 _ rfl
      have q2 := hpl j _ hx 2 _ rfl
      have q3 := hpl j _ hx 3 _ rfl
      simp only [Addr.add_lit, Nat.add_zero] at q0 q1 q2 q3
      have l0 := (hbw.cell (p := ⟨bb, off + j * 4, none⟩) hbB).trans q0
      have l1 := (hbw.cell (p := ⟨bb, off + j * 4 + 1, none⟩) hbB).trans q1
      have l2 := (hbw.cell (p := ⟨bb, off + j * 4 + 2, none⟩) hbB).trans q2
      have l3 := (hbw.cell (p := ⟨bb, off + j * 4 + 3, none⟩) hbB).trans q3
      clear hbw q0 q1 q2 q3
      obtain ⟨⟨i1, i2⟩, lb, at_⟩ := v
      have he := eq_id i1 i2 x1 x2
      have hd : (i1 == x1 && i2 == x2) = decide (((i1, i2) : I2) = (x1, x2)) := by
        by_cases h1 : i1 = x1 <;> by_cases h2 : i2 = x2 <;> simp [h1, h2]
      obtain ⟨b, gb⟩ : ∃ z, decide (((i1, i2) : I2) = (x1, x2)) = z := ⟨_, rfl⟩
      rw [hd, gb] at he
      have Hb := Lib.hid gb
      clear hx hdr HE2 hpl hbB HE hd gb
      go_upto_region 4 with fail
      clear cb
      have ld0 : ∀ w', Kept Nil_ wo.drew w' → w'.cell? ⟨b0, 1, none⟩ = some (.slice (some ⟨bb, off, none⟩) m k) := fun w' h => h.nil_cell (HXo.out.dr.cell (i := 1) rfl)
      have ld1 : ∀ w', Kept Nil_ wo.drew w' → w'.cell? ⟨b1, 0, none⟩ = some (.int .i64 x1) := fun w' h => h.nil_cell (HYo.out.dr.cell (i := 0) rfl)
      have ld2 : ∀ w', Kept Nil_ wo.drew w' → w'.cell? ⟨b1, 1, none⟩ = some (.int .i64 x2) := fun w' h => h.nil_cell (HYo.out.dr.cell (i := 1) rfl)
      have ld3 : ∀ w', Kept Nil_ wo.drew w' → w'.cell? ⟨bb, off + j * 4, none⟩ = some (.int .i64 i1) := fun w' h => h.nil_cell (show wo.drew.cell? _ = _ from l0)
      have ld4 : ∀ w', Kept Nil_ wo.drew w' → w'.cell? ⟨bb, off + j * 4 + 1, none⟩ = some (.int .i64 i2) := fun w' h => h.nil_cell (show wo.drew.cell? _ = _ from l1)
      refine wp_region_reg (Nil_) (by kernel_rfl) ?_
      apply wpR_next 0 (some 13)
      · simp only [List.getElem?_toArray, List.getElem?_cons_succ, List.getElem?_cons_zero]; exact rfl
      · rfl
      · kernel_rfl
      · kernel_rfl
      · kernel_rfl
      · exact fun _ _ _ _ h => h
      apply Exists.intro
      apply And.intro
      · apply yr_run; rfl; intro w' hw'; go_simp; (try with_reducible rfl)
      simp only [Act.put, List.setIfInBounds_toArray, List.set_cons_zero, List.set_cons_succ]
      apply wpR_next 1 (some 14)
      · simp only [List.getElem?_toArray, List.getElem?_cons_succ, List.getElem?_cons_zero]; exact rfl
      · rfl
      · kernel_rfl
      · kernel_rfl
      · kernel_rfl
      · exact fun _ _ _ _ h => h
      apply Exists.intro
      apply And.intro
      · apply yr_run; rfl; intro w' hw'; go_simp; (try with_reducible rfl)
      simp only [Act.put, List.setIfInBounds_toArray, List.set_cons_zero, List.set_cons_succ]
      apply wpR_next 2 (some 15)
      · simp only [List.getElem?_toArray, List.getElem?_cons_succ, List.getElem?_cons_zero]; exact rfl
      · rfl
      · kernel_rfl
      · kernel_rfl
      · kernel_rfl
      · exact fun _ _ _ _ h => h
      apply Exists.intro
      apply And.intro
      · apply yr_run; rfl; intro w' hw'; go_simp; (try with_reducible rfl)
      simp only [Act.put, List.setIfInBounds_toArray, List.set_cons_zero, List.set_cons_succ]
      apply wpR_next 3 (some 16)
      · simp only [List.getElem?_toArray, List.getElem?_cons_succ, List.getElem?_cons_zero]; exact rfl
      · rfl
      · kernel_rfl
      · kernel_rfl
      · kernel_rfl
      · exact fun _ _ _ _ h => h
      apply Exists.intro
      apply And.intro
      · apply yr_run; rfl; intro w' hw'; go_simp; (try with_reducible rfl)
      simp only [Act.put, List.setIfInBounds_toArray, List.set_cons_zero, List.set_cons_succ]
      apply wpR_next 4 (some 17)
      · simp only [List.getElem?_toArray, List.getElem?_cons_succ, List.getElem?_cons_zero]; exact rfl
      · rfl
      · kernel_rfl
      · kernel_rfl
      · kernel_rfl
      · exact fun _ _ _ _ h => h
      apply Exists.intro
      apply And.intro
      · apply yr_run; rfl; intro w' hw'; go_simp; (try with_reducible rfl)
      simp only [Act.put, List.setIfInBounds_toArray, List.set_cons_zero, List.set_cons_succ]
      apply wpR_next 5 (some 18)
      · simp only [List.getElem?_toArray, List.getElem?_cons_succ, List.getElem?_cons_zero]; exact rfl
      · rfl
      · kernel_rfl
      · kernel_rfl
      · kernel_rfl
      · exact fun _ _ _ _ h => h
      apply Exists.intro
      apply And.intro
      · apply yr_run; rfl; intro w' hw'; go_simp; (try with_reducible rfl)
      simp only [Act.put, List.setIfInBounds_toArray, List.set_cons_zero, List.set_cons_succ]
      apply wpR_next 6 (some 19)
      · simp only [List.getElem?_toArray, List.getElem?_cons_succ, List.getElem?_cons_zero]; exact rfl
      · rfl
      · kernel_rfl
      · kernel_rfl
      · kernel_rfl
      · exact fun _ _ _ _ h => h
      apply Exists.intro
      apply And.intro
      · apply yr_run; rfl; intro w' hw'; go_simp; (try with_reducible rfl)
      simp only [Act.put, List.setIfInBounds_toArray, List.set_cons_zero, List.set_cons_succ]
      apply wpR_next 7 (some 20)
      · simp only [List.getElem?_toArray, List.getElem?_cons_succ, List.getElem?_cons_zero]; exact rfl
      · rfl
      · kernel_rfl
      · kernel_rfl
      · kernel_rfl
      · exact fun _ _ _ _ h => h
      apply Exists.intro
      apply And.intro
      · exact yr_run (by rfl) (fun w' hw' => exec_binop_agg .eql 41 (.tmp 18) (.tmp 19) 41 rfl rfl rfl (by kernel_rfl) (he w'))
      simp only [Act.put, List.setIfInBounds_toArray, List.set_cons_zero, List.set_cons_succ]
      refine wpR_done (by kernel_rfl) ?_ _
      intro W8 hw8
      have HB8 := Lib.hid (bel_bl (bel_dr HBr.out) hw8)
      clear hw8 ld0 ld1 ld2 ld3 ld4 l0 l1 l2 l3
      cases b with
      | true =>
        have hp : p = j := by rw [HE3.out, if_pos (of_decide_eq_true Hb.out)]
        clear HE3
        subst hp
        go_wp2
        go_ret
        exact ⟨rfl, HB0.out.trans (HB8.out.mono HB0.out.size)⟩
      | false =>
        have HE4 : RowKit.Hid (p = rplF (j + 1) (Es.drop (j + 1)) (x1, x2)) := Lib.hid (by rw [HE3.out, if_neg (of_decide_eq_false Hb.out)])
        go_wp2
        go_roundw
        case rel => exact ⟨j + 1, by omega, by go_num, HB8, HE4⟩
        case measure => simp [intOf] <;> omega
    · obtain rfl : m = j := by omega
      have hp : p = 0 := by
        rw [HE.out, List.drop_eq_nil_of_le (by have := Hlv.out; omega)]; rfl
      clear HE
      subst hp
      go_wp2
      go_ret
      exact ⟨rfl, HB0.out.trans (HBr.out.mono HB0.out.size)⟩

set_option maxRecDepth 100000 in
set_option maxHeartbeats 4000000 in
theorem ridput_any (A : Option Addr) (c : Nat) (L : List Nat) (x1 x2 : Int) (w : World) (h : RdS w w.heap.size 1 A L.length c (rowsV f8 L)) (hn : L.length ≤ 900000) (hm : mayI x1 x2 = true) :
    Calls Tryz.prog 18 #[.slice A L.length c, .agg #[.int .i64 x1, .int .i64 x2]] w (Gives8 w (L ++ idB (x1, x2))) := by
  obtain ⟨i0, hi, hz0, hz1, hz2⟩ := info_parts_ info_u8
  have HR := Lib.hid h
  obtain ⟨n, gn⟩ : ∃ n, L.length = n := ⟨_, rfl⟩
  have Gn := Lib.hid gn
  rw [gn] at HR hn ⊢
  have hx : 1 ≤ x1 ∧ x1 ≤ 8 ∧ 1 ≤ x2 ∧ x2 ≤ 1048576 := by simpa [mayI] using hm
  have HX1 : RowKit.Hid (Whole (w.alloc (.cells #[.int .i64 x1, .int .i64 x2] 41)) w.heap.size 41 [.int .i64 x1, .int .i64 x2]) := Lib.hid (Whole.new_ _ _ [_, _])
  have HR1 := Lib.hid (HR.out.al (.cells #[.int .i64 x1, .int .i64 x2] 41))
  have HB1 := Lib.hid (below1 w (.cells #[.int .i64 x1, .int .i64 x2] 41))
  clear h gn hm
  go_enter Tryz.func18, Tryz.ntmps18
  go_upto_region 1 with fail
  obtain ⟨w1, gw1⟩ : ∃ z, w.alloc (.cells #[.int .i64 x1, .int .i64 x2] 41) = z := ⟨_, rfl⟩
  obtain ⟨b0, gb0⟩ : ∃ z, w.heap.size = z := ⟨_, rfl⟩
  rw [gw1] at HX1 HR1 HB1 ⊢
  rw [gb0] at HX1 ⊢
  have Gb0 := Lib.hid gb0
  clear gw1 gb0
  obtain ⟨A2, c2, w2, hrun, hown, hb2⟩ := fresh_copy (P := Tryz.prog) w1 27 27 5 i0 _ 1 1 Tryz.underlying27 hi hz0 hz1 hz2 rfl (by decide) A n c _ HR1.out (f8_all L) (by omega) (by decide)
  have HX2 := Lib.hid (HX1.out.bl hb2)
  have HO2 : RowKit.Hid (Ow w1 w1.heap.size 5 1 (.slice A2 n c2) n (rowsV f8 L) w2) := Lib.hid ⟨hown, hb2, Nat.le_refl _, hb2.size⟩
  clear hown hb2 HR1
  go_upto_region 2 with (first
    | (at_builtin
       refine wl_run (some 8) rfl (by rfl) (exec_append (by rfl) (by rfl) (by rfl) hrun) ?_
       clear hrun))
  obtain ⟨q1, g1⟩ : ∃ z, (x1 % 256).toNat = z := ⟨_, rfl⟩
  obtain ⟨q2, g2⟩ : ∃ z, (x2 / 65536 % 256).toNat = z := ⟨_, rfl⟩
  obtain ⟨q3, g3⟩ : ∃ z, (x2 / 256 % 256).toNat = z := ⟨_, rfl⟩
  obtain ⟨q4, g4⟩ : ∃ z, (x2 % 256).toNat = z := ⟨_, rfl⟩
  have hid4 : idB (x1, x2) = [q1, q2, q3, q4] := by rw [← g1, ← g2, ← g3, ← g4]; rfl
  obtain ⟨z2, e2⟩ : ∃ z, x2 / 65536 = z := ⟨_, rfl⟩
  obtain ⟨z3, e3⟩ : ∃ z, x2 / 256 = z := ⟨_, rfl⟩
  obtain ⟨z5, e5⟩ : ∃ z, z3 % 256 = z := ⟨_, rfl⟩
  obtain ⟨z4, e4⟩ : ∃ z, x2 % 256 = z := ⟨_, rfl⟩
  have u1 : IntKind.u8.wrap x1 = (q1 : Int) := by rw [IntKind.wrap_u8]; omega
  have t2 : x2.tdiv 65536 = z2 := by rw [Int.tdiv_eq_ediv_of_nonneg (by omega)]; exact e2
  have v2 : IntKind.i64.wrap z2 = z2 := IntWalk.i64_in _ (by omega)
  have u2 : IntKind.u8.wrap z2 = (q2 : Int) := by rw [IntKind.wrap_u8]; omega
  have t3 : x2.tdiv 256 = z3 := by rw [Int.tdiv_eq_ediv_of_nonneg (by omega)]; exact e3
  have v3 : IntKind.i64.wrap z3 = z3 := IntWalk.i64_in _ (by omega)
  have t5 : z3.tmod 256 = z5 := by rw [Int.tmod_eq_emod_of_nonneg (by omega)]; exact e5
  have v5 : IntKind.i64.wrap z5 = z5 := IntWalk.i64_in _ (by omega)
  have u3 : IntKind.u8.wrap z5 = (q3 : Int) := by rw [IntKind.wrap_u8]; omega
  have t4 : x2.tmod 256 = z4 := by rw [Int.tmod_eq_emod_of_nonneg (by omega)]; exact e4
  have v4 : IntKind.i64.wrap z4 = z4 := IntWalk.i64_in _ (by omega)
  have u4 : IntKind.u8.wrap z4 = (q4 : Int) := by rw [IntKind.wrap_u8]; omega
  have HR4 : RowKit.Hid (RdS (w2.alloc (.cells #[.int .u8 (q1 : Int), .int .u8 (q2 : Int), .int .u8 (q3 : Int), .int .u8 (q4 : Int)] 5)) (w2.alloc (.cells #[.int .u8 (q1 : Int), .int .u8 (q2 : Int), .int .u8 (q3 : Int), .int .u8 (q4 : Int)] 5)).heap.size 1 (some ⟨w2.heap.size, 0, none⟩) 4 4 (rowsV f8 [q1, q2, q3, q4])) := Lib.hid (RdS.of_whole8 (Whole.new_ _ _ [_, _, _, _]) rfl)
  obtain ⟨A3, c3, w3, hrun, ho3, -⟩ := app8 27 (HO2.out.up (below1 w2 (.cells #[.int .u8 (q1 : Int), .int .u8 (q2 : Int), .int .u8 (q3 : Int), .int .u8 (q4 : Int)] 5))) HR4.out (by omega)
  have HO3 := Lib.hid ho3
  have Hid4 := Lib.hid hid4
  have c0 := HX2.out.cell (i := 0) rfl
  have c1 := HX2.out.cell (i := 1) rfl
  clear ho3 hid4 HR4 g1 g2 g3 g4 e2 e3 e4 e5 HO2 HX1 HX2
  go_wp2_with (first
    | (at_builtin
       refine wl_run (some 27) rfl (by rfl) (exec_append (by rfl) (by rfl) (by rfl) hrun) ?_
       clear hrun))
  have hE := HO3.out.below
  obtain ⟨A9, c9, q9, hG⟩ := gives8_ow (w := w) (L := L ++ [q1, q2, q3, q4]) (N := n + 4) (v := .slice A3 (n + 4) c3) (w' := w3) (by rw [List.length_append, Gn.out]; rfl) ⟨own_lo8 HO3.out.own HB1.out.size, HB1.out.trans (hE.mono HB1.out.size), Nat.le_refl _, (HB1.out.trans (hE.mono HB1.out.size)).size⟩
  rw [← q9] at hG
  go_ret
  rw [Hid4.out]
  exact hG
end Go.Proofs.YtahbfdhjgnlmdaaGreat
