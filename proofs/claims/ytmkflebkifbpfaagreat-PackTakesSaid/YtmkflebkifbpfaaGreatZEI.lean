/- Several texts in one. -/
import Derived.Test.YtmkflebkifbpfaaGreatZEA
import Derived.Test.YtmkflebkifbpfaaGreatZEH
import Derived.Test.YtmkflebkifbpfaaGreatZED
import Derived.Test.YtmkflebkifbpfaaGreatZEE
import Derived.Laws.BitsAllLaws
import Derived.Laws.IdiomStrings
import Derived.Laws.ShiftsVarLaws
import Derived.Test.YtmkflebkifbpfaaGreatZEF
/- ident.Put; pack.head. -/
set_option linter.unusedSimpArgs false
set_option linter.unusedVariables false
namespace Go.Proofs.YtmkflebkifbpfaaGreat
open Go.RowKit
theorem exec_makeSlice {P : Program} {ev : Operand → Value} {o : Oper} {w w' : World} (t : TypeId) (l c : Operand) (ho : o.op = .makeSlice t l c) {x y v : Value} (hl : ev l = x) (hc : ev c = y)
    (hrun : (Instr.makeSlice t x y).run P w = .ok v w') : (execOp ev o).run P w = .ok (.value v) w' := by
  unfold execOp
  simp only [ho, hl, hc, Sem.run_bind, Sem.run_pure, Result.andThen_ok, hrun]
/-- A row of one's own is what a call gives. -/
theorem gives8_ow {w w' : World} {L : List Nat} {N : Nat} {v : Value} (hN : L.length = N) (h : Ow w w.heap.size 5 1 v N (rowsV f8 L) w') : ∃ A c, v = .slice A N c ∧ Gives8 w L (.returned (.slice A N c)) w' := by
  subst hN
  obtain ⟨A, c, rfl, hr⟩ := h.rds
  exact ⟨A, c, rfl, A, c, rfl, hr, fun a ha _ => by subst ha; exact (h.own.lt a.block rfl).1, h.own, h.below⟩
set_option maxRecDepth 100000 in
set_option maxHeartbeats 1000000 in
theorem idput_any (A : Option Addr) (c : Nat) (L : List Nat) (x1 x2 : Int) (w : World) (h : RdS w w.heap.size 1 A L.length c (rowsV f8 L)) (hn : L.length ≤ 900000) :
    Calls Tryz.prog 30 #[.slice A L.length c, .agg #[.int .i64 x1, .int .i64 x2]] w (Gives8 w (L ++ idB (x1, x2))) := by
  obtain ⟨i0, hi, hz0, hz1, hz2⟩ := info_parts_ info_u8
  have HR := Lib.hid h
  obtain ⟨n, gn⟩ : ∃ n, L.length = n := ⟨_, rfl⟩
  have Gn := Lib.hid gn
  rw [gn] at HR hn ⊢
  have hw4 : IntKind.i64.wrap ((n : Int) + 4) = ((n + 4 : Nat) : Int) := by rw [IntWalk.i64_in _ (by omega)]; omega
  obtain ⟨n4, gn4⟩ : ∃ z, n + 4 = z := ⟨_, rfl⟩
  rw [gn4] at hw4
  have HX1 : RowKit.Hid (Whole (w.alloc (.cells #[.int .i64 x1, .int .i64 x2] 41)) w.heap.size 41 [.int .i64 x1, .int .i64 x2]) := Lib.hid (Whole.new_ _ _ [_, _])
  have HR1 := Lib.hid (HR.out.al (.cells #[.int .i64 x1, .int .i64 x2] 41))
  have HB1 := Lib.hid (below1 w (.cells #[.int .i64 x1, .int .i64 x2] 41))
  have Hone := Lib.hid (f8_all L)
  clear h gn
  go_enter Tryz.func30, Tryz.ntmps30
  go_upto_region 1 with fail
  obtain ⟨w1, gw1⟩ : ∃ z, w.alloc (.cells #[.int .i64 x1, .int .i64 x2] 41) = z := ⟨_, rfl⟩
  rw [gw1] at HX1 HR1 HB1 ⊢
  clear gw1
  refine wp_region_lit ?_
  refine wl_read (v := ?_) (some 6) rfl (by rfl) ?_ ?_
  rotate_left
  · go_simp; (try with_reducible rfl)
  simp only [Act.put, stA_, st0_, st1_]
  refine wl_read (v := ?_) (some 7) rfl (by rfl) ?_ ?_
  rotate_left
  · go_simp; (try with_reducible rfl)
  simp only [Act.put, stA_, st0_, st1_]
  refine wl_read (v := ?_) (some 8) rfl (by rfl) ?_ ?_
  rotate_left
  · go_simp; (try with_reducible rfl)
  simp only [Act.put, stA_, st0_, st1_]
  obtain ⟨w2, hrun, hown, hgr⟩ := run_make_own (P := Tryz.prog) w1 w1.heap.size 27 5 i0 _ 1 Tryz.underlying27 hi hz0 hz1 .i64 .i64 n4 (by rw [hz2]; omega) (by unfold maxLen; omega) (Nat.le_refl _)
  refine wl_run (some 9) rfl (by rfl) (exec_makeSlice 27 _ _ rfl (by rfl) (by rfl) hrun) ?_
  simp only [Act.put, stA_, st0_, st1_]
  have HP0 : RowKit.Hid (Ow w1 w1.heap.size 5 1 (.slice (some ⟨w1.heap.size, 0, none⟩) 0 n4) 0 [] w2) := Lib.hid ⟨hown, (Below.refl _ _).grown hgr (Nat.le_refl _) (fun k e => by cases e), Nat.le_refl _, hgr.size⟩
  have HR2 := Lib.hid (HR1.out.bl HP0.out.below)
  have HX2 := Lib.hid (HX1.out.bl HP0.out.below)
  obtain ⟨b0, gb0⟩ : ∃ z, w.heap.size = z := ⟨_, rfl⟩
  rw [gb0] at HX1 HX2 ⊢
  have Gb0 := Lib.hid gb0
  clear hrun hown hgr hw4 gn4 gb0
  go_upto_region 3 with (first
    | (at_builtin
       refine wpList_push2 rfl (.tmp 10) (.tmp 11) _ rfl _ 5 i0 _ 1 1 Tryz.underlying27 hi hz0 hz1 hz2 rfl (by decide) _ _ _ rfl HP0.out _ _ _ _ _ rfl HR2.out Hone.out (by unfold maxLen; omega) (by omega) ?_
       intro v1 w3 how1 hb1 hgr1
       rw [Nat.zero_add, List.nil_append] at how1
       have HP1 := Lib.hid how1
       have HX3 := Lib.hid (HX1.out.bl HP1.out.below)
       clear how1 hb1 hgr1))
  have c0 := HX3.out.cell (i := 0) rfl
  have c1 := HX3.out.cell (i := 1) rfl
  have u1 : IntKind.u8.wrap x1 = (((x1 % 256).toNat : Nat) : Int) := by rw [IntKind.wrap_u8]; omega
  have u2 : IntKind.u8.wrap (x2 / 65536) = (((x2 / 65536 % 256).toNat : Nat) : Int) := by rw [IntKind.wrap_u8]; omega
  have u3 : IntKind.u8.wrap (x2 / 256) = (((x2 / 256 % 256).toNat : Nat) : Int) := by rw [IntKind.wrap_u8]; omega
  have u4 : IntKind.u8.wrap x2 = (((x2 % 256).toNat : Nat) : Int) := by rw [IntKind.wrap_u8]; omega
  have hl : (L ++ idB (x1, x2)).length = n + 4 := by rw [List.length_append, Gn.out]; rfl
  have hrows : rowsV f8 L ++ [.int .u8 (((x1 % 256).toNat : Nat) : Int), .int .u8 (((x2 / 65536 % 256).toNat : Nat) : Int), .int .u8 (((x2 / 256 % 256).toNat : Nat) : Int), .int .u8 (((x2 % 256).toNat : Nat) : Int)] = rowsV f8 (L ++ idB (x1, x2)) := by rw [rows8_app]; rfl
  obtain ⟨q1, g1⟩ : ∃ z, (x1 % 256).toNat = z := ⟨_, rfl⟩
  obtain ⟨q2, g2⟩ : ∃ z, (x2 / 65536 % 256).toNat = z := ⟨_, rfl⟩
  obtain ⟨q3, g3⟩ : ∃ z, (x2 / 256 % 256).toNat = z := ⟨_, rfl⟩
  obtain ⟨q4, g4⟩ : ∃ z, (x2 % 256).toNat = z := ⟨_, rfl⟩
  rw [g1] at u1 hrows
  rw [g2] at u2 hrows
  rw [g3] at u3 hrows
  rw [g4] at u4 hrows
  have Hrows := Lib.hid hrows
  have Hl := Lib.hid hl
  clear hrows hl g1 g2 g3 g4 HX1 HX2
  go_wp2_with (first
    | (at_builtin
       refine wpList_push2 rfl (.tmp 13) (.tmp 28) _ rfl _ 5 i0 _ 1 1 Tryz.underlying27 hi hz0 hz1 hz2 rfl (by decide) _ _ _ rfl (by exact Ow.up HP1.out (below1 _ _)) _ (some ⟨w3.heap.size, 0, none⟩) 4 4 ([.int .u8 (q1 : Int), .int .u8 (q2 : Int), .int .u8 (q3 : Int), .int .u8 (q4 : Int)]) rfl (by exact RdS.new_ rfl (Nat.lt_succ_self _) rfl rfl) (by simp [Value.oneCell']) (by unfold maxLen; omega) (by omega) ?_
       intro v1 w5 how1 hb1 hgr1
       rw [Hrows.out] at how1
       have HP2 := Lib.hid how1
       clear how1 hb1 hgr1))
  obtain ⟨A9, c9, rfl, hG⟩ := gives8_ow Hl.out ⟨own_lo8 HP2.out.own (by have := HB1.out.size; omega), HB1.out.trans (HP2.out.below.mono HB1.out.size), Nat.le_refl _, (HB1.out.trans (HP2.out.below.mono HB1.out.size)).size⟩
  go_ret
  exact hG
end Go.Proofs.YtmkflebkifbpfaaGreat
/- pack.head. -/
namespace Go.Proofs.YtmkflebkifbpfaaGreat
open Go.RowKit
set_option maxRecDepth 100000 in
set_option maxHeartbeats 1000000 in
theorem head_any (x1 x2 : Int) (s : ByteArray) (a : Int) (w : World) (hs : s.size ≤ 100000) :
    Calls Tryz.prog 15 #[.agg #[.int .i64 x1, .int .i64 x2], .string s, .int .i64 a] w (Gives8 w (headB (x1, x2) s a)) := by
  have HX1 : RowKit.Hid (Whole (w.alloc (.cells #[.int .i64 x1, .int .i64 x2] 41)) w.heap.size 41 [.int .i64 x1, .int .i64 x2]) := Lib.hid (Whole.new_ _ _ [_, _])
  have HB1 := Lib.hid (below1 w (.cells #[.int .i64 x1, .int .i64 x2] 41))
  have HA := Lib.hid (fun W => idput_any none 0 [] x1 x2 W (rds_nil W W.heap.size 1) (by simp))
  have hl1 : ([] ++ idB (x1, x2)).length = 4 := rfl
  have HT := Lib.hid (fun (A : Option Addr) (c : Nat) W h => text_any A c ([] ++ idB (x1, x2)) s W h (by rw [hl1]; omega) (by omega))
  obtain ⟨L2, gL2⟩ : ∃ z, [] ++ idB (x1, x2) ++ textB s = z := ⟨_, rfl⟩
  have hl2 : L2.length ≤ 900000 := by rw [← gL2]; simp [idB, textB, tB_len]; omega
  have HN := Lib.hid (fun (A : Option Addr) (c : Nat) W h => num_any A c L2 a W h hl2)
  have e3 : L2 ++ be8 a = headB (x1, x2) s a := by rw [← gL2, headB, List.nil_append, List.append_assoc]
  rw [e3] at HN
  rw [gL2] at HT
  rw [hl1] at HT
  obtain ⟨L1, gL1⟩ : ∃ z, [] ++ idB (x1, x2) = z := ⟨_, rfl⟩
  rw [gL1] at HA HT hl1
  have Hl1 := Lib.hid hl1
  obtain ⟨L3, gL3⟩ : ∃ z, headB (x1, x2) s a = z := ⟨_, rfl⟩
  rw [gL3] at HN ⊢
  clear gL1 gL2 gL3 e3 hl1 hl2 hs
  go_enter Tryz.func15, Tryz.ntmps15
  go_upto_region 1 with fail
  have c0 := HX1.out.cell (i := 0) rfl
  have c1 := HX1.out.cell (i := 1) rfl
  go_wp2_with (first
    | (go_at_call 30
       refine (HA.out _).mono ?_
       rintro e w2 ⟨A2, c2, rfl, hr2, -, -, hb2⟩
       have HR2 := Lib.hid hr2
       have HB2 : RowKit.Hid (Below w.heap.size w w2) := Lib.hid (Ext.trans HB1.out hb2)
       rw [Hl1.out] at HR2 ⊢
       clear hr2 hb2 c0 c1)
    | (go_at_call 29
       refine (HT.out A2 c2 _ HR2.out).mono ?_
       rintro e w3 ⟨A3, c3, rfl, hr3, -, -, hb3⟩
       have HR3 := Lib.hid hr3
       have HB3 : RowKit.Hid (Below w.heap.size w w3) := Lib.hid (Ext.trans HB2.out hb3)
       clear hr3 hb3)
    | (go_at_call 13
       refine (HN.out A3 c3 _ HR3.out).mono ?_
       rintro e w4 ⟨A4, c4, rfl, hr4, hn4, ho4, hb4⟩
       have HG : RowKit.Hid (Gives8 w L3 (.returned (.slice A4 L3.length c4)) w4) := Lib.hid ⟨A4, c4, rfl, hr4, fun a ha h0 => Nat.le_trans HB3.out.size (hn4 a ha h0), own_lo8 ho4 HB3.out.size, Ext.trans HB3.out hb4⟩
       clear hr4 hn4 ho4 hb4))
  go_ret
  exact HG.out
end Go.Proofs.YtmkflebkifbpfaaGreat
/- pack.Put. -/
namespace Go.Proofs.YtmkflebkifbpfaaGreat
open Go.RowKit
theorem own_ne_map {W : World} {lo kk n c b q : Nat} {T : TypeId} {A : Option Addr} {xs : List Value} {e : I2 → Option Nat} (h : W.ownsRow lo T kk (.slice A n c) n xs) (hm : EndsM W b q e) : some b ≠ (Value.slice A n c).ownBlock := by
  intro e0
  obtain ⟨D, h0, h2⟩ := hm
  obtain ⟨es, clock, h1, F, hs, hD⟩ := h0
  rcases h.2 with ⟨h3, h4⟩ | ⟨g, cap, cur, h3, hb, hg, hnc, hcm, hcs, ht⟩
  · rw [h3] at e0
    cases e0
  · rw [h3] at e0
    obtain rfl : b = g := Option.some.inj e0
    rw [h1] at hg
    cases hg
/-- Bytes appended onto a row of one's own. -/
theorem app8 {w W : World} {A A' : Option Addr} {n c m c' : Nat} {X L : List Nat} (ty : TypeId) (ho : Ow w w.heap.size 5 1 (.slice A n c) n (rowsV f8 X) W) (hr : RdS W W.heap.size 1 A' m c' (rowsV f8 L)) (hn : n + m ≤ 1000000) :
    ∃ A2 c2 W', (Builtin.append_ #[27, 27] ty #[.slice A n c, .slice A' m c']).run Tryz.prog W = .ok (.slice A2 (n + m) c2) W' ∧ Ow w w.heap.size 5 1 (.slice A2 (n + m) c2) (n + m) (rowsV f8 (X ++ L)) W' ∧ W.grownBy W' (Value.slice A n c).ownBlock := by
  obtain ⟨i0, hi, hz0, hz1, hz2⟩ := info_parts_ info_u8
  obtain ⟨v', W', h1, h2, h3, h4, h5⟩ := Ow.app2 (P := Tryz.prog) 27 ty 5 i0 _ 1 1 _ Tryz.underlying27 hi hz0 hz1 hz2 rfl (by decide) _ _ _ ho _ A' m c' _ hr (f8_all L) (by unfold maxLen; omega) (by omega)
  rw [← rows8_app] at h2
  obtain ⟨A2, c2, rfl, -⟩ := h2.rds
  exact ⟨A2, c2, W', h1, h2, h4⟩
/-- A literal of one byte. -/
theorem one8 (W : World) (b : Nat) : RdS (W.alloc (.cells #[.int .u8 (b : Int)] 5)) (W.alloc (.cells #[.int .u8 (b : Int)] 5)).heap.size 1 (some ⟨W.heap.size, 0, none⟩) 1 1 (rowsV f8 [b]) := RdS.of_whole8 (Whole.new_ _ _ [_]) rfl
theorem put_not (A : Option Addr) (n c : Nat) (Vs : List VC) (B : Option Addr) (m k : Nat) (Es : List EC) (w : World) (h : DgIn w A n c Vs B m k Es) (hg : GoodD Vs Es) (hr : ∀ x ∈ Vs, x.2.1.2.1 ≤ 1000000) (hm : mayF7 Vs Es ≠ 0) :
    Calls Tryz.prog 6 #[.agg #[.slice A n c, .slice B m k]] w fun e w' => e = .returned (.tuple #[.slice none 0 0, .int .i64 (mayF7 Vs Es)]) ∧ Below w.heap.size w w' := by
  have HM := Lib.hid (may7_any (A := A) (n := n) (c := c) (B := B) (m := m) (k := k) hr hg)
  have HD := Lib.hid h
  obtain ⟨x, gx⟩ : ∃ z, mayF7 Vs Es = z := ⟨_, rfl⟩
  rw [gx] at HM hm ⊢
  have hne : (x != 0) = true := bne_iff_ne.2 hm
  clear h hg hr hm gx
  go_enter Tryz.func6, Tryz.ntmps6
  go_upto_region 1 with fail
  have hx0 : Whole (w.alloc (.cells #[.slice A n c, .slice B m k] 25)) (w.heap.size) 25 [.slice A n c, .slice B m k] := (Whole.new_ w 25 [.slice A n c, .slice B m k])
  have hbl : Below w.heap.size w (w.alloc (.cells #[.slice A n c, .slice B m k] 25)) := (below1 w (.cells #[.slice A n c, .slice B m k] 25))
  have hsz : w.heap.size + 1 ≤ ((w.alloc (.cells #[.slice A n c, .slice B m k] 25))).heap.size := by simp
  obtain ⟨W0, gW0⟩ : ∃ z, (w.alloc (.cells #[.slice A n c, .slice B m k] 25)) = z := ⟨_, rfl⟩
  rw [gW0] at hx0 hbl hsz
  obtain ⟨b0, gb0⟩ : ∃ z, w.heap.size = z := ⟨_, rfl⟩
  rw [gb0] at hx0
  have HX0 := Lib.hid hx0
  have HB0 := Lib.hid hbl
  have HS0 := Lib.hid hsz
  have Gb0 := Lib.hid gb0
  have Lb0 : RowKit.Hid (w.heap.size ≤ b0) := Lib.hid (by omega)
  rw [gW0, gb0]
  clear gW0 hbl hsz hx0 gb0
  have c0 := HX0.out.cell (i := 0) rfl
  have c1 := HX0.out.cell (i := 1) rfl
  have HD0 := Lib.hid (HD.out.bl HB0.out)
  go_wp2_with (first | (go_at_call 14; refine (HM.out _ HD0.out).mono ?_; rintro e w2 ⟨rfl, hb2⟩; have HB2 := Lib.hid (Ext.trans HB0.out hb2); clear hb2 c0 c1))
  exact bodyPost_ret (v := .tuple #[.slice none 0 0, .int .i64 x]) (by simp [results, Tryz.results6, go_sem]) rfl ⟨rfl, HB2.out⟩
end Go.Proofs.YtmkflebkifbpfaaGreat
/- pack.Put of a diagram that may be. -/
namespace Go.Proofs.YtmkflebkifbpfaaGreat
open Go.RowKit
theorem ends_get {W : World} {b q : Nat} {e : I2 → Option Nat} (h : EndsM W b q e) {x : I2} (hx : wfI x) {j : Nat} (he : e x = some j) : (Instr.lookup 39 (.map (some b)) (.agg #[.int .i64 x.1, .int .i64 x.2]) false).run Tryz.prog W = .ok (.int .i64 (j : Int)) W := by
  have h1 := MapF.get (x := x) h Tryz.underlying39 (zero_intK W) hx
  rw [he] at h1
  exact h1
theorem kept_own {S : Nat → Prop} {w w' : World} {r : Option Nat} (hg : w.grownBy w' r) (hS : ∀ i, some i = r → S i) : Kept S w w' := ⟨hg.os, hg.tape, hg.output, hg.size, fun i hi hn => hg.block i hi (fun e => hn (hS i e))⟩
def restV (Es : List EC) (Us : List VS) (j : Nat) : List Nat := (Us.drop j).flatMap (vtB Es)
def restE (Es : List EC) (Us : List VS) (i : Nat) : List Nat := (Es.drop i).flatMap edB ++ (Us.length % 256 :: restV Es Us 0)
theorem restE_next {Es : List EC} {Us : List VS} {i : Nat} {e : EC} (h : Es[i]? = some e) : restE Es Us i = headB e.1 e.2.1 e.2.2 ++ restE Es Us (i + 1) := by
  obtain ⟨hi, q⟩ := List.getElem?_eq_some_iff.1 h
  unfold restE
  rw [List.drop_eq_getElem_cons hi, q, List.flatMap_cons, List.append_assoc]
  rfl
theorem restV_next {Es : List EC} {Us : List VS} {i : Nat} {v : VS} (h : Us[i]? = some v) : restV Es Us i = headB v.1 v.2.2.1 v.2.2.2 ++ ([v.2.1.length % 256] ++ ((v.2.1.drop 0).map (dB Es) ++ restV Es Us (i + 1))) := by
  obtain ⟨hi, q⟩ := List.getElem?_eq_some_iff.1 h
  unfold restV
  rw [List.drop_eq_getElem_cons hi, q, List.flatMap_cons, vtB, List.append_assoc]
  rfl
theorem rest_all (Es : List EC) (Us : List VS) : [Es.length % 256] ++ restE Es Us 0 = putD Us Es := rfl
theorem rest_len {X R P : List Nat} (h : X ++ R = P) (hP : P.length ≤ 4000) : X.length + R.length ≤ 4000 := by
  have := congrArg List.length h
  rw [List.length_append] at this
  omega
set_option maxRecDepth 100000 in
set_option maxHeartbeats 4000000 in
theorem put_yes (A : Option Addr) (n c : Nat) (Vs : List VC) (B : Option Addr) (m k : Nat) (Es : List EC) (w : World) (h : DgIn w A n c Vs B m k Es) (hg : GoodD Vs Es) (hr : ∀ x ∈ Vs, x.2.1.2.1 ≤ 1000000) (hm : mayF7 Vs Es = 0) :
    Calls Tryz.prog 6 #[.agg #[.slice A n c, .slice B m k]] w fun e w' => ∃ A' c', e = .returned (.tuple #[.slice A' (putD (Vs.map vS) Es).length c', .int .i64 0]) ∧ w'.ownsRow w.heap.size 5 1 (.slice A' (putD (Vs.map vS) Es).length c') (putD (Vs.map vS) Es).length (rowsV f8 (putD (Vs.map vS) Es)) ∧ Below w.heap.size w w' := by
  have HMy := Lib.hid (may7_any (A := A) (n := n) (c := c) (B := B) (m := m) (k := k) hr hg)
  rw [hm] at HMy
  have HD := Lib.hid h
  have HE := Lib.hid h.e
  have HV := Lib.hid h.v
  have HR := Lib.hid h.r
  have hf := may7_formed hm
  have HF := Lib.hid hf
  have Hle : RowKit.Hid (Es.length = m) := Lib.hid (h.e.rlen eC_len (by decide))
  have Hlv : RowKit.Hid (Vs.length = n) := Lib.hid (h.v.rlen vC_len (by decide))
  have hm40 : m ≤ 40 := by have := hf.e40; have := Hle.out; omega
  have hn24 : n ≤ 24 := by have := hf.v24; have := Hlv.out; omega
  have hP4 := putD_max hf
  have HGd := Lib.hid hg
  have Hnd : RowKit.Hid ((Es.map (·.1)).Nodup) := Lib.hid (rise_nodup hf.re)
  obtain ⟨Us, gUs⟩ : ∃ z, Vs.map vS = z := ⟨_, rfl⟩
  have HUs := Lib.hid gUs
  rw [gUs] at hP4 ⊢
  have hall := rest_all Es Us
  obtain ⟨P, gP⟩ : ∃ z, putD Us Es = z := ⟨_, rfl⟩
  rw [gP] at hP4 hall ⊢
  have HP4 := Lib.hid hP4
  rw [Hle.out] at hall
  have HUl : RowKit.Hid (Us.length = n) := Lib.hid (by rw [← gUs, List.length_map]; exact Hlv.out)
  obtain ⟨m8, gm8⟩ : ∃ z, m % 256 = z := ⟨_, rfl⟩
  rw [gm8] at hall
  have Hall := Lib.hid hall
  have hw8 : IntKind.u8.wrap (m : Int) = (m8 : Int) := by rw [IntKind.wrap_u8]; omega
  clear h hg hr hm hf gUs gP gm8 hall hP4
  have hmm := @run_makeMap Tryz.prog
  go_enter Tryz.func6, Tryz.ntmps6
  go_upto_region 1 with fail
  have hx0 : Whole (w.alloc (.cells #[.slice A n c, .slice B m k] 25)) (w.heap.size) 25 [.slice A n c, .slice B m k] := (Whole.new_ w 25 [.slice A n c, .slice B m k])
  have hbl : Below w.heap.size w (w.alloc (.cells #[.slice A n c, .slice B m k] 25)) := (below1 w (.cells #[.slice A n c, .slice B m k] 25))
  have hsz : w.heap.size + 1 ≤ ((w.alloc (.cells #[.slice A n c, .slice B m k] 25))).heap.size := by simp
  obtain ⟨W0, gW0⟩ : ∃ z, (w.alloc (.cells #[.slice A n c, .slice B m k] 25)) = z := ⟨_, rfl⟩
  rw [gW0] at hx0 hbl hsz
  obtain ⟨b0, gb0⟩ : ∃ z, w.heap.size = z := ⟨_, rfl⟩
  rw [gb0] at hx0
  have HX0 := Lib.hid hx0
  have HB0 := Lib.hid hbl
  have HS0 := Lib.hid hsz
  have Gb0 := Lib.hid gb0
  have Lb0 : RowKit.Hid (w.heap.size ≤ b0) := Lib.hid (by omega)
  rw [gW0, gb0]
  clear gW0 hbl hsz hx0 gb0
  have c0 := HX0.out.cell (i := 0) rfl
  have c1 := HX0.out.cell (i := 1) rfl
  have HD0 := Lib.hid (HD.out.bl HB0.out)
  go_upto_region 4 with (first | (go_at_call 14; refine (HMy.out _ HD0.out).mono ?_; rintro e w2 ⟨rfl, hb2⟩; have HB2 : RowKit.Hid (Below w.heap.size w w2) := Lib.hid (Ext.trans HB0.out hb2); have HX2 := Lib.hid (HX0.out.bl hb2); clear hb2 c0 c1))
  have c1 := HX2.out.cell (i := 1) rfl
  go_upto_region 5 with fail
  clear c1 HX0 HB0 HS0 HD0 HMy hw8
  have HO3 : RowKit.Hid (Ow w w.heap.size 5 1 (.slice (some ⟨w2.heap.size, 0, none⟩) 1 1) 1 (rowsV f8 [m8]) (w2.alloc (.cells #[.int .u8 (m8 : Int)] 5))) := Lib.hid (Ow.new_ (cs := #[.int .u8 (m8 : Int)]) HB2.out (Nat.le_refl _) HB2.out.size (by unfold maxLen; omega) rfl)
  have HX3 := Lib.hid (HX2.out.al (.cells #[.int .u8 (m8 : Int)] 5))
  have HB3 := Lib.hid (bel_al HB2.out (.cells #[.int .u8 (m8 : Int)] 5))
  have Hb03 : RowKit.Hid (b0 < w2.heap.size) := Lib.hid HX2.out.lt
  obtain ⟨w3, gw3⟩ : ∃ z, w2.alloc (.cells #[.int .u8 (m8 : Int)] 5) = z := ⟨_, rfl⟩
  rw [gw3] at HO3 HX3 HB3 ⊢
  have Hb04 : RowKit.Hid (b0 < w3.heap.size) := Lib.hid HX3.out.lt
  clear gw3 HX2 HB2 Hb03
  go_upto_region 6 with fail
  clear hmm
  have HO4 := Lib.hid (Ow.up HO3.out (below1 w3 (.map #[] 0)))
  have HX4 := Lib.hid (HX3.out.al (.map #[] 0))
  have HB4 := Lib.hid (bel_al HB3.out (.map #[] 0))
  have HM4 : RowKit.Hid (EndsM (w3.alloc (.map #[] 0)) w3.heap.size 0 (plM Es 0)) := Lib.hid (by rw [plM_zero]; exact show MapF _ keyID _ _ _ from MapF.made)
  obtain ⟨w4, gw4⟩ : ∃ z, w3.alloc (.map #[] 0) = z := ⟨_, rfl⟩
  have Hlo : RowKit.Hid (w.heap.size ≤ w3.heap.size) := Lib.hid HB3.out.size
  obtain ⟨bm, gbm⟩ : ∃ z, w3.heap.size = z := ⟨_, rfl⟩
  rw [gw4] at HO4 HX4 HB4 HM4 ⊢
  rw [gbm] at HM4 Hlo Hb04 ⊢
  obtain ⟨a1, ga1⟩ : ∃ z, (some (⟨w2.heap.size, 0, none⟩ : Addr)) = z := ⟨_, rfl⟩
  rw [ga1] at HO4 ⊢
  clear gw4 gbm HO3 HX3 HB3 ga1
  have c1 := HX4.out.cell (i := 1) rfl
  go_wp2
  clear c1
  go_loopw [5, 27] (fun v si wr => ∃ (i N : Nat) (A2 : Option Addr) (c2 : Nat) (X : List Nat), i ≤ m ∧ si = .int .i64 i ∧ v = .slice A2 N c2 ∧ RowKit.Hid (Below w.heap.size w wr) ∧ RowKit.Hid (Whole wr b0 25 [.slice A n c, .slice B m k]) ∧ RowKit.Hid (EndsM wr bm i (plM Es i)) ∧ RowKit.Hid (Ow w w.heap.size 5 1 (.slice A2 N c2) N (rowsV f8 X) wr) ∧ RowKit.Hid (X.length = N ∧ X ++ restE Es Us i = P)) (fun _ si _ => m - (intOf si).toNat)
  case atStart => exact ⟨0, 1, _, 1, [m8], by omega, rfl, rfl, HB4, HX4, HM4, HO4, Lib.hid ⟨rfl, Hall.out⟩⟩
  case round =>
    clear HB4 HX4 HM4 HO4
    obtain ⟨i, N, A2, c2, X, hi_, rfl, rfl, HB, HX, HM, HO, HXX⟩ := hrel
    obtain ⟨wo, gwo⟩ : ∃ z, wr = z := ⟨_, rfl⟩
    rw [gwo] at HB HX HM HO ⊢
    clear gwo
    by_cases him : i < m
    · obtain ⟨e, hx⟩ : ∃ e, Es[i]? = some e := ⟨_, List.getElem?_eq_getElem (by have := Hle.out; omega)⟩
      have hsz := HF.out.size.1 e (List.mem_of_getElem? hx)
      have hwe := (HGd.out.e e (List.mem_of_getElem? hx)).1
      have hnx := plM_next Hnd.out hx
      have hrs := HXX.out.2
      rw [restE_next hx, ← List.append_assoc] at hrs
      obtain ⟨eb, eo, gB, -, -⟩ := HE.out.place eC_len (by decide) (by omega)
      subst gB
      have hel := (HE.out.up HB.out HB.out.size).elem eC_len hx
      have l0 := hel 0 _ rfl
      have l1 := hel 1 _ rfl
      have l2 := hel 2 _ rfl
      have l3 := hel 3 _ rfl
      simp only [Addr.add_lit, Nat.add_zero] at l0 l1 l2 l3
      obtain ⟨⟨e1, e2⟩, el, et⟩ := e
      have Hsz : RowKit.Hid (el.size ≤ 16) := Lib.hid hsz
      have Hwe : RowKit.Hid (wfI (e1, e2)) := Lib.hid ⟨hwe.1, hwe.2.1⟩
      have Hnx := Lib.hid hnx
      have Hrs := Lib.hid hrs
      clear hel hsz hwe hnx hrs hx
      go_upto_region 9 with fail
      clear l0 l1 l2 l3
      have HOa := Lib.hid (Ow.up HO.out (below1 wo (.cells #[.int .i64 e1, .int .i64 e2, .string el, .int .i64 et] 43)))
      have HXa := Lib.hid (HX.out.al (.cells #[.int .i64 e1, .int .i64 e2, .string el, .int .i64 et] 43))
      have HMa := Lib.hid (HM.out.al (.cells #[.int .i64 e1, .int .i64 e2, .string el, .int .i64 et] 43))
      have HBa := Lib.hid (bel_al HB.out (.cells #[.int .i64 e1, .int .i64 e2, .string el, .int .i64 et] 43))
      have HEa := Lib.hid (Whole.new2 (w := wo) (t := 43) (cs := [.int .i64 e1, .int .i64 e2, .string el, .int .i64 et]) rfl)
      have Hnb : RowKit.Hid (wo.heap.size ≠ bm) := Lib.hid (by have := HM.out.lt; omega)
      obtain ⟨wa, gwa⟩ : ∃ z, wo.alloc (.cells #[.int .i64 e1, .int .i64 e2, .string el, .int .i64 et] 43) = z := ⟨_, rfl⟩
      obtain ⟨b8, gb8⟩ : ∃ z, wo.heap.size = z := ⟨_, rfl⟩
      rw [gwa] at HOa HXa HMa HBa HEa ⊢
      rw [gb8] at HEa Hnb ⊢
      clear gwa gb8 HO HX HM HB
      have d0 := HEa.out.cell (i := 0) rfl
      have d1 := HEa.out.cell (i := 1) rfl
      refine wp_region_lit ?_
      refine wl_read (v := ?_) (some 32) rfl (by rfl) ?_ ?_
      rotate_left
      · go_simp; (try with_reducible rfl)
      simp only [Act.put, stA_, st0_, st1_]
      refine wl_read (v := ?_) (some 33) rfl (by rfl) ?_ ?_
      rotate_left
      · go_simp; (try with_reducible rfl)
      simp only [Act.put, stA_, st0_, st1_]
      refine wl_read (v := ?_) (some 34) rfl (by rfl) ?_ ?_
      rotate_left
      · go_simp; (try with_reducible rfl)
      simp only [Act.put, stA_, st0_, st1_]
      refine wl_read (v := ?_) (some 35) rfl (by rfl) ?_ ?_
      rotate_left
      · go_simp; (try with_reducible rfl)
      simp only [Act.put, stA_, st0_, st1_]
      refine wl_mapPut rfl (.tmp 32) (.tmp 34) (.tmp 35) rfl rfl HMa.out Tryz.underlying39 (by unfold maxLen; omega) (x := ((e1, e2) : I2)) Hwe.out rfl rfl ?_
      intro w5 hm5 hg5
      clear d0 d1
      have HM5 : RowKit.Hid (EndsM w5 bm (i + 1) (plM Es (i + 1))) := Lib.hid (by rw [← Hnx.out]; exact ends_put hm5)
      have HX5 := Lib.hid (HXa.out.grown hg5 (fun e => by have := Option.some.inj e; have := Hb04.out; omega))
      have HE5 := Lib.hid (HEa.out.grown hg5 (fun e => Hnb.out (Option.some.inj e)))
      have HO5 : RowKit.Hid (Ow w w.heap.size 5 1 (.slice A2 N c2) N (rowsV f8 X) w5) := Lib.hid ⟨HOa.out.own.kept hg5 (.inr (Ne.symm (own_ne_map HOa.out.own HMa.out))), HBa.out.grown hg5 HBa.out.size (fun kk e => by obtain rfl := Option.some.inj e; exact Hlo.out), Nat.le_refl _, Nat.le_trans HBa.out.size hg5.size⟩
      clear hm5 hg5 HMa HXa HEa HOa HBa
      have d0 := HE5.out.cell (i := 0) rfl
      have d1 := HE5.out.cell (i := 1) rfl
      have d2 := HE5.out.cell (i := 2) rfl
      have d3 := HE5.out.cell (i := 3) rfl
      have hbd := rest_len Hrs.out HP4.out
      rw [List.length_append, HXX.out.1] at hbd
      have hXl := HXX.out.1
      obtain ⟨LH, gLH⟩ : ∃ z, headB (e1, e2) el et = z := ⟨_, rfl⟩
      have HC := Lib.hid (fun W => gLH ▸ head_any e1 e2 el et W (by have := Hsz.out; omega))
      replace Hrs : RowKit.Hid (X ++ LH ++ restE Es Us (i + 1) = P) := Lib.hid (by rw [← gLH]; exact Hrs.out)
      replace hbd : N + LH.length ≤ 4000 := by
        have h9 : N + (headB (e1, e2) el et).length + (restE Es Us (i + 1)).length ≤ 4000 := hbd
        rw [← gLH]
        omega
      clear gLH
      go_wp2_with (first
        | (go_at_call 15
           refine (HC.out _).mono ?_
           rintro e w6 ⟨A6, c6, rfl, hr6, -, -, hb6⟩
           have HX6 := Lib.hid (HX5.out.bl hb6)
           have HM6 := Lib.hid (HM5.out.bl hb6)
           have HO6 := Lib.hid (Ow.up HO5.out hb6)
           obtain ⟨A7, c7, w7, hrun, ho7, hg7⟩ := app8 27 HO6.out hr6 (by omega)
           have HX7 := Lib.hid (HX6.out.grown hg7 (own_ne HO6.out.own HX6.out (by decide)))
           have HM7 : RowKit.Hid (EndsM w7 bm (i + 1) (plM Es (i + 1))) := Lib.hid (MapF.grown HM6.out hg7 (own_ne_map HO6.out.own HM6.out))
           have HO7 := Lib.hid ho7
           clear hr6 hb6 ho7 hg7 d0 d1 d2 d3)
        | (at_builtin
           refine wl_run (some 44) rfl (by rfl) (exec_append (by rfl) (by rfl) (by rfl) hrun) ?_))
      go_roundw
      case rel => exact ⟨i + 1, N + LH.length, A7, c7, X ++ LH, by omega, by go_num, rfl, Lib.hid HO7.out.below, HX7, HM7, HO7, Lib.hid ⟨by rw [List.length_append, hXl], Hrs.out⟩⟩
      case measure => simp [intOf] <;> omega
    · obtain rfl : m = i := by omega
      have hrs := HXX.out.2
      unfold restE at hrs
      rw [List.drop_eq_nil_of_le (by have := Hle.out; omega), List.flatMap_nil, List.nil_append, HUl.out, show n % 256 :: restV Es Us 0 = [n % 256] ++ restV Es Us 0 from rfl, ← List.append_assoc] at hrs
      obtain ⟨n8, gn8⟩ : ∃ z, n % 256 = z := ⟨_, rfl⟩
      have hw8 : IntKind.u8.wrap (n : Int) = (n8 : Int) := by rw [IntKind.wrap_u8]; omega
      rw [gn8] at hrs
      have hXl := HXX.out.1
      have hbd := rest_len hrs HP4.out
      rw [List.length_append, hXl, List.length_singleton] at hbd
      have c0 := HX.out.cell (i := 0) rfl
      have HXa := Lib.hid (HX.out.al (.cells #[.int .u8 (n8 : Int)] 5))
      have HMa := Lib.hid (HM.out.al (.cells #[.int .u8 (n8 : Int)] 5))
      have HOa := Lib.hid (Ow.up HO.out (below1 wo (.cells #[.int .u8 (n8 : Int)] 5)))
      obtain ⟨A7, c7, w7, hrun, ho7, hg7⟩ := app8 27 HOa.out (one8 wo n8) (by omega)
      have HX7 := Lib.hid (HXa.out.grown hg7 (own_ne HOa.out.own HXa.out (by decide)))
      have HM7 : RowKit.Hid (EndsM w7 bm m (plM Es m)) := Lib.hid (MapF.grown HMa.out hg7 (own_ne_map HOa.out.own HMa.out))
      have HO7 := Lib.hid ho7
      have HX8 : RowKit.Hid ((X ++ [n8]).length = N + 1 ∧ X ++ [n8] ++ restV Es Us 0 = P) := Lib.hid ⟨by rw [List.length_append, hXl]; rfl, hrs⟩
      clear ho7 hg7 gn8 hrs hXl
      go_upto_region 13 with (first
        | (at_builtin
           refine wl_run (some 52) rfl (by rfl) (exec_append (by rfl) (by rfl) (by rfl) hrun) ?_))
      clear hrun c0 hw8 HXa HMa HOa HX HM HO HB HXX hbd
      obtain ⟨N1, gN1⟩ : ∃ z, N + 1 = z := ⟨_, rfl⟩
      rw [gN1] at HO7 HX8 ⊢
      clear gN1
      obtain ⟨X7, gX7⟩ : ∃ z, X ++ [n8] = z := ⟨_, rfl⟩
      rw [gX7] at HO7 HX8
      clear gX7
      have c0 := HX7.out.cell (i := 0) rfl
      go_wp2
      clear c0
      go_loopw [5, 56] (fun v si wr => ∃ (j N : Nat) (A2 : Option Addr) (c2 : Nat) (X : List Nat), j ≤ n ∧ si = .int .i64 j ∧ v = .slice A2 N c2 ∧ RowKit.Hid (Whole wr b0 25 [.slice A n c, .slice B m k]) ∧ RowKit.Hid (EndsM wr bm m (plM Es m)) ∧ RowKit.Hid (Ow w w.heap.size 5 1 (.slice A2 N c2) N (rowsV f8 X) wr) ∧ RowKit.Hid (X.length = N ∧ X ++ restV Es Us j = P)) (fun _ si _ => n - (intOf si).toNat)
      case atStart => exact ⟨0, N1, A7, c7, X7, by omega, rfl, rfl, HX7, HM7, HO7, HX8⟩
      case round =>
        clear HX7 HM7 HO7 HX8
        obtain ⟨j, N, A2, c2, X, hj_, rfl, rfl, HX, HM, HO, HXX⟩ := hrel
        obtain ⟨wo, gwo⟩ : ∃ z, wr = z := ⟨_, rfl⟩
        rw [gwo] at HX HM HO ⊢
        clear gwo
        by_cases hjn : j < n
        · obtain ⟨v, hx⟩ : ∃ v, Vs[j]? = some v := ⟨_, List.getElem?_eq_getElem (by have := Hlv.out; omega)⟩
          have hvm := List.mem_of_getElem? hx
          have hsz := HF.out.size.2 v hvm
          have hrg := HR.out v hvm
          have hr8 := HF.out.ring v hvm
          have hwd := HGd.out.v v hvm
          have hpl : ∀ d ∈ v.2.1.2.2.2, plM Es m (d.1, d.2.1) = some (plE Es (d.1, d.2.1)) ∧ plE Es (d.1, d.2.1) < m ∧ (d.2.2 = 0 ∨ d.2.2 = 1) := fun d hd => by
            obtain ⟨e, he, q1, q2⟩ := HF.out.of_dart hvm hd
            have h1 := plM_all HF.out hvm hd
            have h2 := plE_lt HF.out hvm hd
            rw [Hle.out] at h1 h2
            exact ⟨h1, h2, q2⟩
          have hrs := HXX.out.2
          rw [restV_next (v := vS v) (by rw [← HUs.out, List.getElem?_map, hx]; rfl), ← List.append_assoc, ← List.append_assoc] at hrs
          obtain ⟨eb, eo, gA, -, -⟩ := HV.out.place vC_len (by decide) (by omega)
          subst gA
          have hel := (HV.out.up HO.out.below HO.out.below.size).elem vC_len hx
          have l0 := hel 0 _ rfl
          have l1 := hel 1 _ rfl
          have l2 := hel 2 _ rfl
          have l3 := hel 3 _ rfl
          have l4 := hel 4 _ rfl
          simp only [Addr.add_lit, Nat.add_zero] at l0 l1 l2 l3 l4
          obtain ⟨⟨i1, i2⟩, ⟨rA, rn, rc, rL⟩, lb, at_⟩ := v
          have Hsz : RowKit.Hid (lb.size ≤ 16) := Lib.hid hsz
          have HRr : RowKit.Hid (RdS w w.heap.size 3 rA rn rc (dartsV rL)) := Lib.hid hrg.2
          have Hwd : RowKit.Hid (∀ d ∈ rL, wfD d) := Lib.hid hwd
          have Hpl : RowKit.Hid (∀ d ∈ rL, plM Es m (d.1, d.2.1) = some (plE Es (d.1, d.2.1)) ∧ plE Es (d.1, d.2.1) < m ∧ (d.2.2 = 0 ∨ d.2.2 = 1)) := Lib.hid hpl
          have hrl : rL.length = rn := HRr.out.dlen
          have Hrl := Lib.hid hrl
          have hr9 : rn ≤ 80 := by rw [← hrl]; exact hr8
          replace hrs : X ++ headB (i1, i2) lb at_ ++ [rL.length % 256] ++ ((rL.drop 0).map (dB Es) ++ restV Es Us (j + 1)) = P := hrs
          rw [hrl] at hrs
          obtain ⟨LH, gLH⟩ : ∃ z, headB (i1, i2) lb at_ = z := ⟨_, rfl⟩
          have HC := Lib.hid (fun W => gLH ▸ head_any i1 i2 lb at_ W (by have := Hsz.out; omega))
          obtain ⟨r8, gr8⟩ : ∃ z, rn % 256 = z := ⟨_, rfl⟩
          have hw8 : IntKind.u8.wrap (rn : Int) = (r8 : Int) := by rw [IntKind.wrap_u8]; omega
          rw [gLH, gr8] at hrs
          have hXl := HXX.out.1
          have hbd := rest_len hrs HP4.out
          rw [List.length_append, List.length_append, hXl, List.length_singleton] at hbd
          have hb1 : N + LH.length ≤ 4000 := by omega
          have hb2 : N + LH.length + 1 ≤ 4000 := by omega
          have Hrs := Lib.hid hrs
          clear hel hsz hwd hrs hx hvm hrg hr8 hpl hrl gLH gr8 hbd
          go_upto_region 16 with fail
          clear l0 l1 l2 l3 l4
          have HOa := Lib.hid (Ow.up HO.out (below1 wo (.cells #[.int .i64 i1, .int .i64 i2, .slice rA rn rc, .string lb, .int .i64 at_] 47)))
          have HXa := Lib.hid (HX.out.al (.cells #[.int .i64 i1, .int .i64 i2, .slice rA rn rc, .string lb, .int .i64 at_] 47))
          have HMa := Lib.hid (HM.out.al (.cells #[.int .i64 i1, .int .i64 i2, .slice rA rn rc, .string lb, .int .i64 at_] 47))
          have HVa := Lib.hid (Whole.new2 (w := wo) (t := 47) (cs := [.int .i64 i1, .int .i64 i2, .slice rA rn rc, .string lb, .int .i64 at_]) rfl)
          obtain ⟨wa, gwa⟩ : ∃ z, wo.alloc (.cells #[.int .i64 i1, .int .i64 i2, .slice rA rn rc, .string lb, .int .i64 at_] 47) = z := ⟨_, rfl⟩
          obtain ⟨b10, gb10⟩ : ∃ z, wo.heap.size = z := ⟨_, rfl⟩
          rw [gwa] at HOa HXa HMa HVa ⊢
          rw [gb10] at HVa ⊢
          clear gwa gb10 HO HX HM
          have d0 := HVa.out.cell (i := 0) rfl
          have d1 := HVa.out.cell (i := 1) rfl
          have d3 := HVa.out.cell (i := 3) rfl
          have d4 := HVa.out.cell (i := 4) rfl
          go_upto_region 17 with (first
            | (go_at_call 15
               refine (HC.out _).mono ?_
               rintro e w6 ⟨A6, c6, rfl, hr6, -, -, hb6⟩
               have HX6 := Lib.hid (HXa.out.bl hb6)
               have HM6 := Lib.hid (HMa.out.bl hb6)
               have HV6 := Lib.hid (HVa.out.bl hb6)
               have HO6 := Lib.hid (Ow.up HOa.out hb6)
               obtain ⟨A7, c7, w7, hrun, ho7, hg7⟩ := app8 27 HO6.out hr6 (by omega)
               have HX7 := Lib.hid (HX6.out.grown hg7 (own_ne HO6.out.own HX6.out (by decide)))
               have HV7 := Lib.hid (HV6.out.grown hg7 (own_ne HO6.out.own HV6.out (by decide)))
               have HM7 : RowKit.Hid (EndsM w7 bm m (plM Es m)) := Lib.hid (MapF.grown HM6.out hg7 (own_ne_map HO6.out.own HM6.out))
               have HO7 := Lib.hid ho7
               clear hr6 hb6 ho7 hg7 d0 d1 d3 d4)
            | (at_builtin
               refine wl_run (some 68) rfl (by rfl) (exec_append (by rfl) (by rfl) (by rfl) hrun) ?_))
          clear hrun HX6 HM6 HV6 HO6 HXa HMa HVa HOa
          have d2 := HV7.out.cell (i := 2) rfl
          have HXb := Lib.hid (HX7.out.al (.cells #[.int .u8 (r8 : Int)] 5))
          have HMb := Lib.hid (HM7.out.al (.cells #[.int .u8 (r8 : Int)] 5))
          have HVb := Lib.hid (HV7.out.al (.cells #[.int .u8 (r8 : Int)] 5))
          have HOb := Lib.hid (Ow.up HO7.out (below1 w7 (.cells #[.int .u8 (r8 : Int)] 5)))
          obtain ⟨A8, c8, w8, hrun, ho8, hg8⟩ := app8 27 HOb.out (one8 w7 r8) (by omega)
          have HX8 := Lib.hid (HXb.out.grown hg8 (own_ne HOb.out.own HXb.out (by decide)))
          have HV8 := Lib.hid (HVb.out.grown hg8 (own_ne HOb.out.own HVb.out (by decide)))
          have HM8 : RowKit.Hid (EndsM w8 bm m (plM Es m)) := Lib.hid (MapF.grown HMb.out hg8 (own_ne_map HOb.out.own HMb.out))
          have HO8 := Lib.hid ho8
          have HX9 : RowKit.Hid ((X ++ LH ++ [r8]).length = N + LH.length + 1 ∧ X ++ LH ++ [r8] ++ ((rL.drop 0).map (dB Es) ++ restV Es Us (j + 1)) = P) := Lib.hid ⟨by rw [List.length_append, List.length_append, hXl]; rfl, Hrs.out⟩
          clear ho8 hg8
          go_upto_region 18 with (first
            | (at_builtin
               refine wl_run (some 75) rfl (by rfl) (exec_append (by rfl) (by rfl) (by rfl) hrun) ?_))
          clear hrun d2 hw8 HXb HMb HVb HOb HX7 HM7 HV7 HO7 hXl HXX hb1 hb2 Hrs HC
          obtain ⟨N8, gN8⟩ : ∃ z, N + LH.length + 1 = z := ⟨_, rfl⟩
          rw [gN8] at HO8 HX9 ⊢
          clear gN8
          obtain ⟨X8, gX8⟩ : ∃ z, X ++ LH ++ [r8] = z := ⟨_, rfl⟩
          rw [gX8] at HO8 HX9
          clear gX8
          obtain ⟨R9, gR9⟩ : ∃ z, restV Es Us (j + 1) = z := ⟨_, rfl⟩
          rw [gR9] at HX9
          have HR9 := Lib.hid gR9
          clear gR9
          have d2 := HV8.out.cell (i := 2) rfl
          go_wp2
          clear d2 HV8
          go_loopw [5, 79] (fun v si wr => ∃ (t N : Nat) (A2 : Option Addr) (c2 : Nat) (X : List Nat), t ≤ rn ∧ si = .int .i64 t ∧ v = .slice A2 N c2 ∧ RowKit.Hid (Whole wr b0 25 [.slice (some ⟨eb, eo, none⟩) n c, .slice B m k]) ∧ RowKit.Hid (EndsM wr bm m (plM Es m)) ∧ RowKit.Hid (Ow w w.heap.size 5 1 (.slice A2 N c2) N (rowsV f8 X) wr) ∧ RowKit.Hid (X.length = N ∧ X ++ ((rL.drop t).map (dB Es) ++ R9) = P)) (fun _ si _ => rn - (intOf si).toNat)
          case atStart => exact ⟨0, N8, A8, c8, X8, by omega, rfl, rfl, HX8, HM8, HO8, HX9⟩
          case round =>
            clear HX8 HM8 HO8 HX9
            obtain ⟨t, N, A2, c2, X, ht_, rfl, rfl, HX, HM, HO, HXX⟩ := hrel
            obtain ⟨wi, gwi⟩ : ∃ z, wr = z := ⟨_, rfl⟩
            rw [gwi] at HX HM HO ⊢
            clear gwi
            by_cases htn : t < rn
            · obtain ⟨d, hx⟩ : ∃ d, rL[t]? = some d := ⟨_, List.getElem?_eq_getElem (by have := Hrl.out; omega)⟩
              obtain ⟨hp1, hp2, hp3⟩ := Hpl.out d (List.mem_of_getElem? hx)
              have hwd := Hwd.out d (List.mem_of_getElem? hx)
              have hrs := HXX.out.2
              have hdr : rL.drop t = d :: rL.drop (t + 1) := by
                rw [List.drop_eq_getElem_cons (List.getElem?_eq_some_iff.1 hx).1, (List.getElem?_eq_some_iff.1 hx).2]
              rw [hdr, List.map_cons, List.cons_append, show ∀ (a : Nat) (l : List Nat), a :: l = [a] ++ l from fun _ _ => rfl, ← List.append_assoc] at hrs
              obtain ⟨rb, ro, gr, -, hcd⟩ := (HRr.out.up HO.out.below HO.out.below.size).darts (by omega)
              subst gr
              have hjl : t < rL.length := by have := Hrl.out; omega
              obtain ⟨l0, l1, l2⟩ := hcd t hjl
              have hgd : rL.getD t (0, 0, 0) = d := by rw [List.getD_eq_getElem?_getD, hx]; rfl
              rw [hgd] at l0 l1 l2
              obtain ⟨d1, d2, d3⟩ := d
              simp only at hp1 hp2 hp3 l0 l1 l2
              obtain ⟨p, gp⟩ : ∃ z, plE Es (d1, d2) = z := ⟨_, rfl⟩
              have hdb : dB Es (d1, d2, d3) = (p + 128 * d3.toNat) % 256 := by unfold dB; rw [gp]
              rw [gp] at hp1 hp2
              obtain ⟨db, gdb⟩ : ∃ z, dB Es (d1, d2, d3) = z := ⟨_, rfl⟩
              rw [gdb] at hrs hdb
              obtain ⟨x1, hw1⟩ : ∃ z, IntKind.i64.wrap (128 * d3) = z := ⟨_, rfl⟩
              have hx1 : x1 = 128 * d3 := by rw [← hw1]; exact IntWalk.i64_in _ (by omega)
              obtain ⟨x2, hw2⟩ : ∃ z, IntKind.i64.wrap ((p : Int) + x1) = z := ⟨_, rfl⟩
              have hx2 : x2 = (p : Int) + 128 * d3 := by rw [← hw2, hx1]; exact IntWalk.i64_in _ (by omega)
              have hw3 : IntKind.u8.wrap x2 = (db : Int) := by rw [hx2, hdb, IntKind.wrap_u8]; omega
              have hXl := HXX.out.1
              have hbd := rest_len hrs HP4.out
              rw [List.length_append, hXl, List.length_singleton] at hbd
              have hb1 : N + 1 ≤ 4000 := by omega
              have Hrs := Lib.hid hrs
              have Hp1 := Lib.hid hp1
              have Hwf : RowKit.Hid (wfI (d1, d2)) := Lib.hid ⟨hwd.1, hwd.2.1⟩
              clear hx hp1 hp3 hwd hrs hdr hcd hjl hgd gp hdb gdb hx1 hx2 hbd
              go_upto_region 21 with fail
              clear l0 l1 l2
              have HOa := Lib.hid (Ow.up HO.out (below1 wi (.cells #[.int .i64 d1, .int .i64 d2, .int .i64 d3] 49)))
              have HXa := Lib.hid (HX.out.al (.cells #[.int .i64 d1, .int .i64 d2, .int .i64 d3] 49))
              have HMa := Lib.hid (HM.out.al (.cells #[.int .i64 d1, .int .i64 d2, .int .i64 d3] 49))
              have HDa := Lib.hid (Whole.new2 (w := wi) (t := 49) (cs := [.int .i64 d1, .int .i64 d2, .int .i64 d3]) rfl)
              obtain ⟨wa, gwa⟩ : ∃ z, wi.alloc (.cells #[.int .i64 d1, .int .i64 d2, .int .i64 d3] 49) = z := ⟨_, rfl⟩
              obtain ⟨b12, gb12⟩ : ∃ z, wi.heap.size = z := ⟨_, rfl⟩
              rw [gwa] at HOa HXa HMa HDa ⊢
              rw [gb12] at HDa ⊢
              clear gwa gb12 HO HX HM
              have Hs1 : RowKit.Hid (¬ (some b12 = (Value.slice A2 N c2).ownBlock ∨ wa.heap.size ≤ b12)) := Lib.hid (fun e => by rcases e with e | e; exact own_ne HOa.out.own HDa.out (by decide) e; exact absurd HDa.out.lt (by omega))
              have Hs2 : RowKit.Hid (¬ (some bm = (Value.slice A2 N c2).ownBlock ∨ wa.heap.size ≤ bm)) := Lib.hid (fun e => by rcases e with e | e; exact own_ne_map HOa.out.own HMa.out e; exact absurd HMa.out.lt (by omega))
              have ld0 : ∀ w', Kept (fun i => some i = (Value.slice A2 N c2).ownBlock ∨ wa.heap.size ≤ i) wa.drew w' → w'.cell? ⟨b12, 0, none⟩ = some (.int .i64 d1) := fun w' h => h.cell (HDa.out.dr.cell (i := 0) rfl) Hs1.out
              have ld1 : ∀ w', Kept (fun i => some i = (Value.slice A2 N c2).ownBlock ∨ wa.heap.size ≤ i) wa.drew w' → w'.cell? ⟨b12, 1, none⟩ = some (.int .i64 d2) := fun w' h => h.cell (HDa.out.dr.cell (i := 1) rfl) Hs1.out
              have ld2 : ∀ w', Kept (fun i => some i = (Value.slice A2 N c2).ownBlock ∨ wa.heap.size ≤ i) wa.drew w' → w'.cell? ⟨b12, 2, none⟩ = some (.int .i64 d3) := fun w' h => h.cell (HDa.out.dr.cell (i := 2) rfl) Hs1.out
              have HDr : RowKit.Hid (Ext wa wa.drew) := Lib.hid (below_drewN wa.heap.size wa 1)
              refine wp_region_reg (fun i => some i = (Value.slice A2 N c2).ownBlock ∨ wa.heap.size ≤ i) (by kernel_rfl) ?_
              refine opR_ 0 83 (v := ?_) ?_ ?_; rotate_left
              · intro w' hw'; go_simp; (try with_reducible rfl)
              simp only [st0_, st1_]
              refine opR_ 1 84 (v := ?_) ?_ ?_; rotate_left
              · intro w' hw'; go_simp; (try with_reducible rfl)
              simp only [st0_, st1_]
              refine opR_ 2 85 (v := ?_) ?_ ?_; rotate_left
              · intro w' hw'; go_simp; (try with_reducible rfl)
              simp only [st0_, st1_]
              refine opR_ 3 86 (v := ?_) ?_ ?_; rotate_left
              · intro w' hw'; go_simp; (try with_reducible rfl)
              simp only [st0_, st1_]
              refine opX_ 4 87 ?_
              apply Exists.intro
              apply And.intro
              · apply yr_run; rfl; intro w' hw'; exact exec_mapGet rfl rfl rfl (ends_get (EndsM.kept HMa.out.dr hw' Hs2.out) Hwf.out Hp1.out)
              simp only [st0_, st1_]
              refine opR_ 5 88 (v := ?_) ?_ ?_; rotate_left
              · intro w' hw'; go_simp; (try with_reducible rfl)
              simp only [st0_, st1_]
              refine opR_ 6 89 (v := ?_) ?_ ?_; rotate_left
              · intro w' hw'; go_simp; (try with_reducible rfl)
              simp only [st0_, st1_]
              refine opR_ 7 90 (v := ?_) ?_ ?_; rotate_left
              · intro w' hw'; go_simp; (try with_reducible rfl)
              simp only [st0_, st1_]
              refine opR_ 8 91 (v := ?_) ?_ ?_; rotate_left
              · intro w' hw'; go_simp; (try with_reducible rfl)
              simp only [st0_, st1_]
              refine opR_ 9 92 (v := ?_) ?_ ?_; rotate_left
              · intro w' hw'; go_simp; (try with_reducible rfl)
              simp only [st0_, st1_]
              apply wpR_run 10 (some 93)
              · rfl
              · rfl
              · kernel_rfl
              · rfl
              intro w' hw'
              refine ⟨.slice (some ⟨w'.heap.size, 0, none⟩) 1 1, w'.alloc (.cells #[.int .u8 (db : Int)] 5), by (go_simp; first | done | exact rfl | exact ⟨rfl, rfl⟩), Kept.of_below (below1 _ _), ?_⟩
              have hE0 := Ext.trans HDr.out hw'
              have HXb := Lib.hid ((HXa.out.bl hE0).al (.cells #[.int .u8 (db : Int)] 5))
              have HMb := Lib.hid ((HMa.out.bl hE0).al (.cells #[.int .u8 (db : Int)] 5))
              have HOb := Lib.hid (Ow.up (Ow.up HOa.out hE0) (below1 w' (.cells #[.int .u8 (db : Int)] 5)))
              have HSb := Lib.hid (one8 w' db)
              obtain ⟨wb, gwb⟩ : ∃ z, w'.alloc (.cells #[.int .u8 (db : Int)] 5) = z := ⟨_, rfl⟩
              obtain ⟨ab, gab⟩ : ∃ z, w'.heap.size = z := ⟨_, rfl⟩
              rw [gwb] at HXb HMb HOb HSb ⊢
              rw [gab] at HSb ⊢
              clear gwb gab hE0 hw' HXa HMa HOa ld0 ld1 ld2
              simp only [Act.put, stA_, st0_, st1_]
              apply wpR_run 11 (some 94)
              · rfl
              · rfl
              · kernel_rfl
              · rfl
              intro w' hw'
              obtain ⟨A7, c7, w7, hrun, ho7, hg7⟩ := app8 27 (Ow.up HOb.out hw') (HSb.out.bl hw') (by omega)
              refine ⟨_, w7, exec_append (by rfl) (by rfl) (by rfl) hrun, kept_own hg7 (fun i e => .inl e), ?_⟩
              have HX7 := Lib.hid ((HXb.out.bl hw').grown hg7 (own_ne (own_up HOb.out.own hw') (HXb.out.bl hw') (by decide)))
              have HM7 : RowKit.Hid (EndsM w7 bm m (plM Es m)) := Lib.hid (MapF.grown (HMb.out.bl hw') hg7 (own_ne_map (own_up HOb.out.own hw') (HMb.out.bl hw')))
              have HO7 := Lib.hid ho7
              clear hrun ho7 hg7 hw' HXb HMb HOb HSb
              simp only [Act.put, stA_, st0_, st1_]
              refine opR_ 12 5 (v := ?_) ?_ ?_; rotate_left
              · intro w' hw'; go_simp; (try with_reducible rfl)
              simp only [st0_, st1_]
              refine wpR_done (by kernel_rfl) ?_ _
              intro w9 hw9
              have HX9 := Lib.hid (HX7.out.bl hw9)
              have HM9 := Lib.hid (HM7.out.bl hw9)
              have HO9 := Lib.hid (Ow.up HO7.out hw9)
              clear hw9 HX7 HM7 HO7
              go_wp2
              go_roundw
              case rel => exact ⟨t + 1, N + 1, A7, c7, X ++ [db], by omega, by go_num, rfl, HX9, HM9, HO9, Lib.hid ⟨by rw [List.length_append, hXl]; rfl, Hrs.out⟩⟩
              case measure => simp [intOf] <;> omega
            · obtain rfl : rn = t := by omega
              have hrs := HXX.out.2
              rw [List.drop_eq_nil_of_le (by have := Hrl.out; omega), List.map_nil, List.nil_append, ← HR9.out] at hrs
              go_wp2
              go_roundw
              case rel => exact ⟨j + 1, N, A2, c2, X, by omega, by go_num, rfl, HX, HM, HO, Lib.hid ⟨HXX.out.1, hrs⟩⟩
              case measure => simp [intOf] <;> omega
        · obtain rfl : n = j := by omega
          have hrs := HXX.out.2
          unfold restV at hrs
          rw [List.drop_eq_nil_of_le (by have := HUl.out; omega), List.flatMap_nil, List.append_nil] at hrs
          obtain rfl := hrs
          obtain rfl : X.length = N := HXX.out.1
          go_wp2
          exact bodyPost_ret (v := .tuple #[.slice A2 X.length c2, .int .i64 0]) (by simp [results, Tryz.results6, go_sem]) rfl ⟨A2, c2, rfl, HO.out.own, HO.out.below⟩
end Go.Proofs.YtmkflebkifbpfaaGreat
/- The document's example of layer 8. -/
namespace Go.Proofs.YtmkflebkifbpfaaGreat
open Go.RowKit
theorem may7_nil : mayF7 [] [] = 0 := by
  unfold mayF7
  rw [if_pos ((form0 [] []).2 tw0_formed), tw0_gen]
  rfl
theorem put_nil : putD (([] : List VC).map vS) [] = [0, 0] := rfl
set_option maxRecDepth 100000 in
set_option maxHeartbeats 1000000 in
theorem shown08_any (w : World) : Calls Tryz.prog 5 #[] w fun e w' => e = .returned (.bool true) ∧ Below w.heap.size w w' := by
  have HP := Lib.hid (fun W => put_yes none 0 0 [] none 0 0 [] W ⟨RdS.no _ _ _, RdS.no _ _ _, fun x hx => (by cases hx)⟩ tw0_good (fun x hx => (by cases hx)) may7_nil)
  rw [put_nil] at HP
  have HN := Lib.hid (fun W => num_any none 0 [] 1 W (rds_nil W W.heap.size 1) (by simp))
  have hl : ([] ++ be8 1).length = 8 := by rw [List.nil_append, be8_len]
  obtain ⟨L, gL⟩ : ∃ z, [] ++ be8 1 = z := ⟨_, rfl⟩
  rw [gL] at HN hl
  have Hl := Lib.hid hl
  obtain ⟨Q, gQ⟩ : ∃ z, ([0, 0] : List Nat) = z := ⟨_, rfl⟩
  have hq : Q.length = 2 := by rw [← gQ]; rfl
  rw [gQ, hq] at HP
  have htx : txt Q = { data := #[0, 0] } := by rw [← gQ]; rfl
  have Htx := Lib.hid htx
  clear gL hl gQ hq htx
  go_enter Tryz.func5, Tryz.ntmps5
  go_upto_region 2 with (first
    | (go_at_call 6
       refine (HP.out _).mono ?_
       rintro e w2 ⟨A2, c2, rfl, ho2, hb2⟩
       have HR2 := Lib.hid (own_rds ho2)
       have HB2 := Lib.hid hb2
       clear ho2 hb2))
  have hcv := conv_txt HR2.out
  rw [Htx.out] at hcv
  go_wp2_with (first
    | (go_at_call 13
       refine (HN.out _).mono ?_
       rintro e w3 ⟨A3, c3, rfl, hr3, -, -, hb3⟩
       have HB3 : RowKit.Hid (Below w.heap.size w w3) := Lib.hid (Ext.trans HB2.out hb3)
       rw [Hl.out] at hr3 ⊢
       clear hr3 hb3 hcv))
  go_ret
  exact ⟨by first | rfl | simp, HB3.out⟩
end Go.Proofs.YtmkflebkifbpfaaGreat
/- few of stage 8: the same as stage 7's. -/
namespace Go.Proofs.YtmkflebkifbpfaaGreat
open Go.RowKit
end Go.Proofs.YtmkflebkifbpfaaGreat
/- pack.number, TakeNum. -/
namespace Go.Proofs.YtmkflebkifbpfaaGreat
open Go.RowKit
theorem ofInt_64 (a : Nat) (ha : a < 18446744073709551616) : (BitVec.ofInt 64 (a : Int)).toNat = a := by
  rw [BitVec.ofInt_natCast, BitVec.toNat_ofNat]; exact Nat.mod_eq_of_lt (by omega)
theorem u64_or_byte (x b : Nat) (hx : x < 72057594037927936) (hb : b < 256) : bits .or .u64 ((x : Int) * 256) (b : Int) = ((x * 256 + b : Nat) : Int) := by
  have e : ((x : Int) * 256) = ((2 ^ 8 * x : Nat) : Int) := by omega
  rw [e]
  show IntKind.u64.wrap ((BitVec.ofInt 64 ((2 ^ 8 * x : Nat) : Int) ||| BitVec.ofInt 64 (b : Int)).toNat : Int) = _
  rw [BitVec.toNat_or, ofInt_64 _ (by omega), ofInt_64 b (by omega), ← Nat.two_pow_add_eq_or_of_lt (by omega) x, IntKind.wrap_u64]
  omega
/-- The byte at a place. -/
theorem byte_at {W : World} {B n c : Nat} {A : Option Addr} {L : List Nat} (h : RdS W B 1 A n c (rowsV f8 L)) (hn : 0 < n) : ∃ bb off, A = some ⟨bb, off, none⟩ ∧ bb < B ∧ ∀ (j b : Nat), L[j]? = some b → W.cell? ⟨bb, off + j, none⟩ = some (.int .u8 (b : Int)) := by
  obtain ⟨bb, off, rfl, hb, hp⟩ := h.place f8_len (by decide) hn
  refine ⟨bb, off, rfl, hb, fun j b hj => ?_⟩
  have := hp j b hj 0 _ rfl
  rw [Addr.add_lit] at this
  simpa using this
set_option maxRecDepth 100000 in
set_option maxHeartbeats 1000000 in
theorem number_any (A : Option Addr) (n c : Nat) (L : List Nat) (w : World) (h : RdS w w.heap.size 1 A n c (rowsV f8 L)) (hn : 8 ≤ n) (hb : ∀ b ∈ L, b < 256) :
    Calls Tryz.prog 58 #[.slice A n c] w fun e w' => e = .returned (.int .i64 (num8 (L.take 8))) ∧ w = w' := by
  obtain ⟨bb, off, rfl, -, hp⟩ := byte_at h (by omega)
  have hl := h.rlen f8_len (by decide)
  have hc := h.le
  have Hp := Lib.hid hp
  have Hb := Lib.hid hb
  have Hlt := Lib.hid (fun k hk => deN_lt hb k hk)
  unfold num8
  obtain ⟨x, gx⟩ : ∃ x, IntKind.i64.wrap ((deN (L.take 8) : Nat) : Int) = x := ⟨_, rfl⟩
  rw [gx]
  have Gx := Lib.hid gx
  clear h hp hb gx
  go_enter Tryz.func58, Tryz.ntmps58
  go_wp2
  go_loop [3, 9] (fun u i => ∃ k : Nat, k ≤ 8 ∧ u = .int .u64 ((deN (L.take k) : Nat) : Int) ∧ i = .int .i64 (k : Int)) (fun _ i => 8 - (intOf i).toNat)
  case atStart => exact ⟨0, by omega, by simp [deN], by simp⟩
  case round =>
    obtain ⟨k, hk, rfl, rfl⟩ := hrel
    by_cases hlt : k < 8
    · obtain ⟨b, hbk⟩ : ∃ b, L[k]? = some b := ⟨_, List.getElem?_eq_getElem (by omega)⟩
      have l0 := Hp.out k b hbk
      have hb6 : b < 256 := Hb.out b (List.mem_of_getElem? hbk)
      have hd : deN (L.take (k + 1)) = deN (L.take k) * 256 + b := by rw [take_snoc_ L k b hbk, deN_snoc]
      have hdl : deN (L.take k) < 72057594037927936 := by
        have h1 := Hlt.out k (by omega)
        have h2 : 256 ^ k ≤ 256 ^ 7 := Nat.pow_le_pow_right (by omega) (by omega)
        omega
      obtain ⟨X, gX⟩ : ∃ X, deN (L.take k) = X := ⟨_, rfl⟩
      rw [gX] at hd hdl ⊢
      have Hd := Lib.hid hd
      have ho := u64_or_byte X b hdl hb6
      have hw1 : IntKind.u64.wrap ((X : Int) * 256) = (X : Int) * 256 := by rw [IntKind.wrap_u64]; omega
      have hw2 : IntKind.u64.wrap (b : Int) = (b : Int) := by rw [IntKind.wrap_u64]; omega
      have hk8 : (k : Int) < 8 := by omega
      clear gX hd hbk
      go_wp2
      refine ⟨⟨k + 1, by omega, ?_, by go_num⟩, by simp [intOf]; omega⟩
      rw [Hd.out]
      exact congrArg (Value.int .u64) (by omega)
    · obtain rfl : k = 8 := by omega
      have hwx := Gx.out
      obtain ⟨X, gX⟩ : ∃ X, deN (L.take 8) = X := ⟨_, rfl⟩
      rw [gX] at hwx ⊢
      clear gX
      go_wp2
      go_ret
      exact ⟨rfl, rfl⟩
end Go.Proofs.YtmkflebkifbpfaaGreat
/- pack.TakeNum. -/
namespace Go.Proofs.YtmkflebkifbpfaaGreat
open Go.RowKit
end Go.Proofs.YtmkflebkifbpfaaGreat
/- pack.TakeText. -/
namespace Go.Proofs.YtmkflebkifbpfaaGreat
open Go.RowKit
theorem Kept.ext_nil {w w' : World} (h : Kept Nil_ w w') : Ext w w' := ⟨h.os, h.tape, h.output, h.size, fun i hi => h.block i hi (fun e => e)⟩
/-- Whether bytes begin with a text. -/
def isT (L : List Nat) : Bool := decide (1 ≤ L.length ∧ 1 + c1 L ≤ L.length)
def txT (L : List Nat) : ByteArray := if isT L = true then txt ((L.drop 1).take (c1 L)) else { data := #[] }
def leT (L : List Nat) : List Nat := if isT L = true then L.drop (1 + c1 L) else L
end Go.Proofs.YtmkflebkifbpfaaGreat
/- The document's Num, TakeNum, Text, TakeText. -/
namespace Go.Proofs.YtmkflebkifbpfaaGreat
open Go.RowKit
theorem conv_str (s : ByteArray) (w : World) : ∃ c w', (convert 9 27 (.string s)).run Tryz.prog w = .ok (.slice (some ⟨w.heap.size, 0, none⟩) s.size c) w' ∧ RdS w' w'.heap.size 1 (some ⟨w.heap.size, 0, none⟩) s.size c (rowsV f8 (tB s)) ∧ Below w.heap.size w w' := by
  have h := run_bytes_of_string (P := Tryz.prog) w 9 27 5 s (Tryz.underlying9 ) (Tryz.underlying27 ) (Tryz.underlying5 )
  have hb : Below w.heap.size w (w.drew.alloc (.cells (bytesRow s (grownCap w s.size 0 5)) 5 ((bytesRow s (grownCap w s.size 0 5)).size, (bytesRow s (grownCap w s.size 0 5)).size + 1))) := (Below.refl _ w).drew.alloc (by simp) _
  have hr : ∀ j u, (rowsV f8 (tB s))[j]? = some u → (w.drew.alloc (.cells (bytesRow s (grownCap w s.size 0 5)) 5 ((bytesRow s (grownCap w s.size 0 5)).size, (bytesRow s (grownCap w s.size 0 5)).size + 1))).cell? ((⟨w.heap.size, 0, none⟩ : Addr).add j) = some u := fun j u hu => by
    have hj : j < s.data.size := by
      have := (List.getElem?_eq_some_iff.1 hu).1
      rw [rows8_len, tB_len] at this
      exact this
    rw [rows_get, tB_data, List.getElem?_map, Array.getElem?_toList, Array.getElem?_eq_getElem hj] at hu
    have hx := bytesRow_at s (grownCap w s.size 0 5) j hj
    have hu2 : some (Value.int .u8 (s.data[j].toNat : Int)) = some u := hu
    rw [hu2] at hx
    exact World.news_of_block (fr := _) (heap_alloc_new w.drew _) j u (by rw [Array.getElem?_toList]; exact hx)
  exact ⟨_, _, h, ⟨by rw [rows8_len, tB_len, Nat.mul_one], fun e => (by cases e), grownCap_ge _ _ _ _, fun a ha _ => (by obtain rfl := Option.some.inj ha; simp), fun a ha j u hu => (by obtain rfl := Option.some.inj ha; exact hr j u hu)⟩, hb⟩
theorem exec_convert_w {P : Program} {ev : Operand → Value} {o : Oper} {w w' : World} (s d : TypeId) (x : Operand) (ho : o.op = .convert s d x) {v u : Value} (hx : ev x = v) (hrun : (convert s d v).run P w = .ok u w') : (execOp ev o).run P w = .ok (.value u) w' := by
  unfold execOp
  simp only [ho, hx, Sem.run_bind, Sem.run_pure, Result.andThen_ok, hrun]
theorem beN_get : ∀ (k U j : Nat), j < k → (beN k U)[j]? = some (U / 256 ^ (k - 1 - j) % 256)
  | 0, U, j, h => by omega
  | k + 1, U, 0, h => by rw [beN_cons]; rfl
  | k + 1, U, j + 1, h => by
    rw [beN_cons, List.getElem?_cons_succ, beN_get k U j (by omega)]
    rw [show k + 1 - 1 - (j + 1) = k - 1 - j by omega]
end Go.Proofs.YtmkflebkifbpfaaGreat
/- A dart that stands at another vertex, or at two: what a caller needs; a diagram whose rings are replaced one by one. -/
namespace Go.Proofs.YtmkflebkifbpfaaGreat
open Go.RowKit
/-- A cell that holds what a row does not hold is none of the row's. -/
theorem rds_poke {w : World} {B s n c : Nat} {A : Option Addr} {xs : List Value} (h : RdS w B s A n c xs) {p : Addr} {v : Value} (hp : w.cell? p = some v) (hv : ¬ v ∈ xs) (u : Value) : RdS (w.setCell p u) B s A n c xs :=
  ⟨h.len, h.none_, h.le, h.low, fun a ha j z hz => by
    have h1 := h.cell a ha j z hz
    by_cases e : p = a.add j
    · rw [← e, hp] at h1
      obtain rfl := Option.some.inj h1
      exact absurd (List.mem_of_getElem? hz) hv
    · rw [World.cell?_setCell_other _ _ _ _ e]
      exact h1⟩
theorem size_setCell (w : World) (p : Addr) (u : Value) : (w.setCell p u).heap.size = w.heap.size := by simp
theorem rowsV_mem {α : Type} {f : α → List Value} : ∀ {L : List α} {v : Value}, v ∈ rowsV f L → ∃ x ∈ L, v ∈ f x := by
  intro L
  induction L with
  | nil => intro v h; cases h
  | cons a r ih =>
    intro v h
    rcases List.mem_append.1 (show v ∈ f a ++ rowsV f r from h) with h | h
    · exact ⟨a, List.mem_cons_self .., h⟩
    · obtain ⟨x, hx, h2⟩ := ih h
      exact ⟨x, List.mem_cons_of_mem _ hx, h2⟩
theorem no_slice_e {Es : List EC} {A : Option Addr} {n c : Nat} : ¬ Value.slice A n c ∈ rowsV eC Es := fun h => by
  obtain ⟨x, _, hx⟩ := rowsV_mem h
  simp [eC] at hx
theorem no_slice_d {L : List D} {A : Option Addr} {n c : Nat} : ¬ Value.slice A n c ∈ dartsV L := fun h => by
  rw [dartsV_rows] at h
  obtain ⟨x, _, hx⟩ := rowsV_mem h
  simp [dC] at hx
/-- A diagram whose vertices are of one's own. -/
structure Wr (W : World) (lo : Nat) (A : Option Addr) (n c : Nat) (Us : List VC) (B : Option Addr) (m k : Nat) (Es : List EC) : Prop where
  v : W.ownsRow lo 47 5 (.slice A n c) n (rowsV vC Us)
  e : RdS W W.heap.size 4 B m k (rowsV eC Es)
  r : ∀ x ∈ Us, RgOk W x.2.1
section
variable {W W' : World} {lo : Nat} {A : Option Addr} {n c : Nat} {Us : List VC} {B : Option Addr} {m k : Nat} {Es : List EC}
theorem Cl.wr (h : Cl W lo A n c Us B m k Es) : Wr W lo A n c Us B m k Es := ⟨h.v, h.dg.e, h.dg.r⟩
theorem Wr.dg (h : Wr W lo A n c Us B m k Es) : DgIn W A n c Us B m k Es := ⟨own_rds h.v, h.e, h.r⟩
theorem Wr.bl (h : Wr W lo A n c Us B m k Es) (hb : Below W.heap.size W W') : Wr W' lo A n c Us B m k Es := ⟨own_up h.v hb, h.e.bl hb, fun x hx => (h.r x hx).bl hb⟩
theorem Wr.al (h : Wr W lo A n c Us B m k Es) (o : Obj) : Wr (W.alloc o) lo A n c Us B m k Es := h.bl (below1 W o)
theorem Wr.dr (h : Wr W lo A n c Us B m k Es) : Wr W.drew lo A n c Us B m k Es := h.bl ((Below.refl _ _).drew)
theorem rg_poke {g i : Nat} {R : Rg} (h : RgOk W R) {A1 : Option Addr} {n1 c1 : Nat} (hp : W.cell? ⟨g, i, none⟩ = some (.slice A1 n1 c1)) (u : Value) : RgOk (W.setCell ⟨g, i, none⟩ u) R :=
  ⟨h.1, by rw [size_setCell]; exact rds_poke h.2 hp no_slice_d u⟩
theorem Wr.far (h : Wr W lo A n c Us B m k Es) {g i : Nat} {A1 : Option Addr} {n1 c1 : Nat} (hp : W.cell? ⟨g, i, none⟩ = some (.slice A1 n1 c1)) (hg : ∀ a, A = some a → g ≠ a.block) (u : Value) : Wr (W.setCell ⟨g, i, none⟩ u) lo A n c Us B m k Es :=
  ⟨own_cell_far h.v (fun e => by
    cases A with
    | none => cases e
    | some a =>
      exact hg a rfl (Option.some.inj e)) u, by rw [size_setCell]; exact rds_poke h.e hp no_slice_e u, fun x hx => rg_poke (h.r x hx) hp u⟩
theorem Wr.put (h : Wr W lo A n c Us B m k Es) {j : Nat} {x : VC} (hx : Us[j]? = some x) (hj : j < n) (R : Rg) (hR : RgOk W R) :
    ∃ g, A = some ⟨g, 0, none⟩ ∧ lo ≤ g ∧ (∃ cs, Whole W g 47 cs) ∧ W.cell? ⟨g, j * 5 + 2, none⟩ = some (.slice x.2.1.1 x.2.1.2.1 x.2.1.2.2.1) ∧ W.frozen? ⟨g, j * 5 + 2, none⟩ = false ∧
      Wr (W.setCell ⟨g, j * 5 + 2, none⟩ (.slice R.1 R.2.1 R.2.2.1)) lo A n c (Us.set j (x.1, R, x.2.2)) B m k Es := by
  obtain ⟨g, junk, e, hlo, hw, hc, hf, ho⟩ := own_poke (i := 2) (y := (x.1, R, x.2.2)) (u := .slice R.1 R.2.1 R.2.2.1) vC_len h.v hx hj (by omega) rfl
  have hc2 : W.cell? ⟨g, j * 5 + 2, none⟩ = some (.slice x.2.1.1 x.2.1.2.1 x.2.1.2.2.1) := hc.trans rfl
  refine ⟨g, e, hlo, ⟨_, hw⟩, hc2, hf, ho, by rw [size_setCell]; exact rds_poke h.e hc2 no_slice_e _, fun y hy => rg_poke ?_ hc2 _⟩
  rcases List.mem_or_eq_of_mem_set hy with hy | rfl
  · exact h.r y hy
  · exact hR
end
end Go.Proofs.YtmkflebkifbpfaaGreat
/- The document's Clone. -/
namespace Go.Proofs.YtmkflebkifbpfaaGreat
open Go.RowKit
theorem info_dartc : (Tryz.prog.info? 49).map (fun i => (i.zero, i.size, i.bytes)) = some (some (.agg #[.int .i64 0, .int .i64 0, .int .i64 0]), 3, 24) := by kernel_rfl
theorem own_lo0 {W : World} {B B' n : Nat} {e : TypeId} {size : Nat} {v : Value} {xs : List Value} (h : W.ownsRow B e size v n xs) (hB : B' ≤ B) : W.ownsRow B' e size v n xs := by
  refine ⟨h.1, ?_⟩
  rcases h.2 with hn | ⟨g, cap, cur, h1, hb, rest⟩
  · exact .inl hn
  · exact .inr ⟨g, cap, cur, h1, Nat.le_trans hB hb, rest⟩
/-- What is appended onto an empty row just made is a row of one's own. -/
theorem fresh_copy {P : Program} (W : World) (t ty e : TypeId) (i : TypeInfo) (z : Value) (size bytes : Nat) (ht : P.underlying t = some (.slice e)) (hi : P.info? e = some i) (hz : i.zero = some z) (hsize : i.size = size) (hby : i.bytes = bytes) (hzs : z.cells.size = size) (hs0 : 0 < size)
    (A : Option Addr) (m c : Nat) (news : List Value) (hr : RdS W W.heap.size size A m c news) (h1 : ∀ u ∈ news, u.oneCell' = true) (hm : m ≤ 1000000) (hb : bytes ≤ 100) :
    ∃ A' c' W', (Builtin.append_ #[t, t] ty #[.slice (some ⟨W.heap.size, 0, none⟩) 0 0, .slice A m c]).run P (W.alloc (.cells #[] e)) = .ok (.slice A' m c') W' ∧ W'.ownsRow W.heap.size e size (.slice A' m c') m news ∧ Below W.heap.size W W' := by
  have how : Ow W W.heap.size e size (.slice (some ⟨W.heap.size, 0, none⟩) 0 0) 0 [] (W.alloc (.cells #[] e)) := ⟨World.ownsRow_made W #[] 0 (Nat.le_refl _) (Nat.zero_le _) (by simp), bel_al (Below.refl _ W) _, Nat.le_refl _, by simp⟩
  have hsum : (0 + m) * bytes ≤ 140737488355328 := Nat.le_trans (Nat.mul_le_mul_left _ hb) (by omega)
  obtain ⟨v', W', hrun, ho, hb2, hg, -⟩ := Ow.app2 (P := P) t ty e i z size bytes W.heap.size ht hi hz hsize hby hzs hs0 _ _ _ how _ A m c news (hr.al (.cells #[] e)) h1 (by unfold maxLen; omega) hsum
  rw [Nat.zero_add, List.nil_append] at ho
  obtain ⟨A', c', rfl, -⟩ := ho.rds
  exact ⟨A', c', W', hrun, ho.own, ho.below⟩
/-- A diagram that is copied, vertex by vertex. -/
structure ClS (W : World) (lo : Nat) (A : Option Addr) (n c : Nat) (Ws : List VC) (B : Option Addr) (m k : Nat) (Es : List EC) : Prop where
  v : W.ownsRow lo 47 5 (.slice A n c) n (rowsV vC Ws)
  e : W.ownsRow lo 43 4 (.slice B m k) m (rowsV eC Es)
  r : ∀ x ∈ Ws, W.ownsRow lo 49 3 (.slice x.2.1.1 x.2.1.2.1 x.2.1.2.2.1) x.2.1.2.1 (dartsV x.2.1.2.2.2)
section
variable {W W' : World} {lo : Nat} {A : Option Addr} {n c : Nat} {Ws : List VC} {B : Option Addr} {m k : Nat} {Es : List EC}
theorem ClS.bl (h : ClS W lo A n c Ws B m k Es) (hb : Below W.heap.size W W') : ClS W' lo A n c Ws B m k Es := ⟨own_up h.v hb, own_up h.e hb, fun x hx => own_up (h.r x hx) hb⟩
theorem ClS.al (h : ClS W lo A n c Ws B m k Es) (o : Obj) : ClS (W.alloc o) lo A n c Ws B m k Es := h.bl (below1 W o)
theorem ClS.wr (h : ClS W lo A n c Ws B m k Es) : Wr W lo A n c Ws B m k Es := ⟨h.v, own_rds h.e, fun x hx => ⟨own_cap (h.r x hx), own_rds (h.r x hx)⟩⟩
/-- A write to a block of another type. -/
theorem ClS.far (h : ClS W lo A n c Ws B m k Es) {g i : Nat} {T : TypeId} {cs : List Value} (hw : Whole W g T cs) (h1 : T ≠ 47) (h2 : T ≠ 43) (h3 : T ≠ 49) (u : Value) : ClS (W.setCell ⟨g, i, none⟩ u) lo A n c Ws B m k Es :=
  ⟨own_cell_far h.v (own_ne h.v hw h1) u, own_cell_far h.e (own_ne h.e hw h2) u, fun x hx => own_cell_far (h.r x hx) (own_ne (h.r x hx) hw h3) u⟩
theorem ClS.far2 (h : ClS W lo A n c Ws B m k Es) {g i : Nat} {cs : List Value} (hw : Whole W g 47 cs) (hv : some g ≠ (Value.slice A n c).ownBlock) (u : Value) : ClS (W.setCell ⟨g, i, none⟩ u) lo A n c Ws B m k Es :=
  ⟨own_cell_far h.v hv u, own_cell_far h.e (own_ne h.e hw (by decide)) u, fun x hx => own_cell_far (h.r x hx) (own_ne (h.r x hx) hw (by decide)) u⟩
/-- A write to a block that is none of its. -/
theorem ClS.lo_ (h : ClS W lo A n c Ws B m k Es) {lo' : Nat} (hl : lo' ≤ lo) : ClS W lo' A n c Ws B m k Es := by
  have q : ∀ {e : TypeId} {s : Nat} {v : Value} {j : Nat} {xs : List Value}, W.ownsRow lo e s v j xs → W.ownsRow lo' e s v j xs := fun h => by
    refine ⟨h.1, ?_⟩
    rcases h.2 with hn | ⟨g, cap, cur, h1, hb, rest⟩
    · exact .inl hn
    · exact .inr ⟨g, cap, cur, h1, Nat.le_trans hl hb, rest⟩
  exact ⟨q h.v, q h.e, fun x hx => q (h.r x hx)⟩
/-- One vertex more. -/
theorem ClS.push {P : Program} (h : ClS W lo A n c Ws B m k Es) (x : VC) (hx : W.ownsRow lo 49 3 (.slice x.2.1.1 x.2.1.2.1 x.2.1.2.2.1) x.2.1.2.1 (dartsV x.2.1.2.2.2)) (t ty : TypeId) (i : TypeInfo) (z : Value) (ht : P.underlying t = some (.slice 47)) (hi : P.info? 47 = some i) (hz : i.zero = some z) (hsize : i.size = 5) (hby : i.bytes = 64) (hzs : z.cells.size = 5)
    (hn : n ≤ 1000000) (hlo : lo ≤ W.heap.size) (g : Nat) (hr : RdS W W.heap.size 5 (some ⟨g, 0, none⟩) 1 1 (vC x)) :
    ∃ A' c' W', (Builtin.append_ #[t, t] ty #[.slice A n c, .slice (some ⟨g, 0, none⟩) 1 1]).run P W = .ok (.slice A' (n + 1) c') W' ∧ ClS W' lo A' (n + 1) c' (Ws ++ [x]) B m k Es ∧ Below lo W W' ∧ W.grownBy W' (Value.slice A n c).ownBlock := by
  obtain ⟨v', W2, hrun, hown, hg, hn0, hb⟩ := run_append_own_at (P := P) W lo t ty 47 i z 5 64 ht hi hz hsize hby hzs (by decide) _ n _ h.v ⟨g, 0, none⟩ 1 1 _ hr.len (hr.cell _ rfl) (vC_one x) (by unfold maxLen; omega) (by omega) hlo
  have hk : ∀ k, (Value.slice A n c).ownBlock = some k → lo ≤ k := fun k hk => (h.v.lt k hk).1
  obtain ⟨A', c', rfl, _⟩ := RdS.of_own hown
  have e : rowsV vC Ws ++ vC x = rowsV vC (Ws ++ [x]) := by rw [rowsV_app]; simp [rowsV]
  rw [e] at hown
  have keep : ∀ {T : TypeId} {s : Nat} {v : Value} {j : Nat} {xs : List Value}, W.ownsRow lo T s v j xs → 47 ≠ T → W2.ownsRow lo T s v j xs := fun {T s v j xs} ho hT => ho.kept hg (by
    cases hv : v.ownBlock with
    | none => exact .inl rfl
    | some g => exact .inr fun q => own_two h.v ho hT q.symm hv)
  refine ⟨A', c', W2, hrun, ⟨hown, keep h.e (by decide), fun y hy => ?_⟩, (Below.refl lo W).grown hg hlo hk, hg⟩
  rcases List.mem_append.1 hy with hy | hy
  · exact keep (h.r y hy) (by decide)
  · obtain rfl := List.mem_singleton.1 hy
    exact keep hx (by decide)
end
end Go.Proofs.YtmkflebkifbpfaaGreat
/- The document's Num. -/
namespace Go.Proofs.YtmkflebkifbpfaaGreat
open Go.RowKit
set_option maxRecDepth 100000 in
set_option maxHeartbeats 4000000 in
theorem rnum_any (A : Option Addr) (c : Nat) (L : List Nat) (x : Int) (w : World) (h : RdS w w.heap.size 1 A L.length c (rowsV f8 L)) (hn : L.length ≤ 900000) :
    Calls Tryz.prog 16 #[.slice A L.length c, .int .i64 x] w (Gives8 w (L ++ be8 x)) := by
  obtain ⟨i0, hi, hz0, hz1, hz2⟩ := info_parts_ info_u8
  obtain ⟨A1, c1, w1, hrun, how, hbw⟩ := fresh_copy (P := Tryz.prog) w 27 27 5 i0 _ 1 1 Tryz.underlying27 hi hz0 hz1 hz2 rfl (by decide) A L.length c _ h (f8_all L) (by omega) (by decide)
  have hx := wrap_u64_ x
  have hU := u64_lt x
  have e8 : L ++ be8 x = L ++ (beN 8 (u64 x)).take 8 := by
    rw [List.take_of_length_le (by rw [beN_len]; omega)]
    rfl
  rw [e8]
  obtain ⟨U, gU⟩ : ∃ U, u64 x = U := ⟨_, rfl⟩
  rw [gU] at hx hU ⊢
  have Hn : RowKit.Hid (L.length ≤ 900000) := Lib.hid hn
  have HU := Lib.hid hU
  have Hx := Lib.hid hx
  have HO1 : RowKit.Hid (Ow w w.heap.size 5 1 (.slice A1 L.length c1) L.length (rowsV f8 (L ++ (beN 8 U).take 0)) w1) := Lib.hid (by rw [List.take_zero, List.append_nil]; exact ⟨how, hbw, Nat.le_refl _, hbw.size⟩)
  have Hl8 : RowKit.Hid ((L ++ (beN 8 U).take 8).length = L.length + 8) := Lib.hid (by rw [List.length_append, List.length_take, beN_len]; rfl)
  obtain ⟨n, gn⟩ : ∃ n, L.length = n := ⟨_, rfl⟩
  rw [gn] at hrun HO1 Hn Hl8 ⊢
  clear h hn e8 gU hU hx how hbw gn hi hz0 hz1 hz2
  go_enter Tryz.func16, Tryz.ntmps16
  go_upto_region 2 with (first
    | (at_builtin
       refine wl_run (some 9) rfl (by rfl) (exec_append (by rfl) (by rfl) (by rfl) hrun) ?_))
  clear hrun
  go_wp2
  go_loopw [5, 6] (fun v si wr => ∃ (k N : Nat) (A2 : Option Addr) (c2 : Nat), k ≤ 8 ∧ si = .int .i64 (7 - (k : Int)) ∧ v = .slice A2 N c2 ∧ RowKit.Hid (N = n + k) ∧ RowKit.Hid (Ow w w.heap.size 5 1 (.slice A2 N c2) N (rowsV f8 (L ++ (beN 8 U).take k)) wr)) (fun _ si _ => (intOf si + 1).toNat)
  case atStart => exact ⟨0, n, A1, c1, by omega, rfl, rfl, Lib.hid rfl, HO1⟩
  case round =>
    clear HO1
    obtain ⟨k, N, A2, c2, hk, rfl, rfl, HN, HO⟩ := hrel
    by_cases hlt : k < 8
    · have hb := beN_get 8 U k hlt
      obtain ⟨db, gdb⟩ : ∃ z, U / 256 ^ (8 - 1 - k) % 256 = z := ⟨_, rfl⟩
      rw [gdb] at hb
      have hnx : (beN 8 U).take k ++ [db] = (beN 8 U).take (k + 1) := by rw [List.take_add_one, hb]; rfl
      have Hnx := Lib.hid hnx
      obtain ⟨A3, c3, w3, hrun, ho3, hg3⟩ := app8 27 (Ow.up HO.out (below1 wr (.cells #[.int .u8 (db : Int)] 5))) (one8 wr db) (by have := HN.out; have := Hn.out; omega)
      rw [List.append_assoc, hnx] at ho3
      have HO3 := Lib.hid ho3
      have hx := Hx.out
      have hd0 : decide ((0 : Int) ≤ 7 - (k : Int)) = true := decide_eq_true (by omega)
      have hsb : IntKind.i64.wrap (7 - (k : Int) - 1) = 7 - ((k + 1 : Nat) : Int) := by rw [IntWalk.i64_in _ (by omega)]; omega
      have h8m : IntKind.i64.wrap (8 * (7 - (k : Int))) = ((8 * (7 - k) : Nat) : Int) := by rw [IntWalk.i64_in _ (by omega)]; omega
      clear hb hnx ho3 hg3
      have hcs : k = 0 ∨ k = 1 ∨ k = 2 ∨ k = 3 ∨ k = 4 ∨ k = 5 ∨ k = 6 ∨ k = 7 := by omega
      rcases hcs with rfl | rfl | rfl | rfl | rfl | rfl | rfl | rfl
      · have hw8 : IntKind.u8.wrap ((U : Int) / 72057594037927936) = (db : Int) := by rw [IntKind.wrap_u8]; have h9 : U / 72057594037927936 % 256 = db := gdb; omega
        have hw9 : IntKind.i64.wrap 56 = 56 := rfl
        have hd1 : decide ((0 : Int) ≤ 7) = true := rfl
        replace hsb : IntKind.i64.wrap (7 - 1) = 7 - ((1 : Nat) : Int) := hsb
        clear hd0 h8m gdb hlt hk
        rw [show (7 : Int) - ((0 : Nat) : Int) = 7 from rfl]
        go_wp2_with (first
          | (at_builtin
             refine wl_run (some 22) rfl (by rfl) (exec_append (by rfl) (by rfl) (by rfl) hrun) ?_))
        go_roundw
        case rel => exact ⟨1, N + 1, A3, c3, by omega, by first | rfl | simp, rfl, Lib.hid (by have := HN.out; omega), HO3⟩
        case measure => first | (simp [intOf]; done) | (simp [intOf]; omega) | decide
      · have hw8 : IntKind.u8.wrap ((U : Int) / 281474976710656) = (db : Int) := by rw [IntKind.wrap_u8]; have h9 : U / 281474976710656 % 256 = db := gdb; omega
        have hw9 : IntKind.i64.wrap 48 = 48 := rfl
        have hd1 : decide ((0 : Int) ≤ 6) = true := rfl
        replace hsb : IntKind.i64.wrap (6 - 1) = 7 - ((2 : Nat) : Int) := hsb
        clear hd0 h8m gdb hlt hk
        rw [show (7 : Int) - ((1 : Nat) : Int) = 6 from rfl]
        go_wp2_with (first
          | (at_builtin
             refine wl_run (some 22) rfl (by rfl) (exec_append (by rfl) (by rfl) (by rfl) hrun) ?_))
        go_roundw
        case rel => exact ⟨2, N + 1, A3, c3, by omega, by first | rfl | simp, rfl, Lib.hid (by have := HN.out; omega), HO3⟩
        case measure => first | (simp [intOf]; done) | (simp [intOf]; omega) | decide
      · have hw8 : IntKind.u8.wrap ((U : Int) / 1099511627776) = (db : Int) := by rw [IntKind.wrap_u8]; have h9 : U / 1099511627776 % 256 = db := gdb; omega
        have hw9 : IntKind.i64.wrap 40 = 40 := rfl
        have hd1 : decide ((0 : Int) ≤ 5) = true := rfl
        replace hsb : IntKind.i64.wrap (5 - 1) = 7 - ((3 : Nat) : Int) := hsb
        clear hd0 h8m gdb hlt hk
        rw [show (7 : Int) - ((2 : Nat) : Int) = 5 from rfl]
        go_wp2_with (first
          | (at_builtin
             refine wl_run (some 22) rfl (by rfl) (exec_append (by rfl) (by rfl) (by rfl) hrun) ?_))
        go_roundw
        case rel => exact ⟨3, N + 1, A3, c3, by omega, by first | rfl | simp, rfl, Lib.hid (by have := HN.out; omega), HO3⟩
        case measure => first | (simp [intOf]; done) | (simp [intOf]; omega) | decide
      · have hw8 : IntKind.u8.wrap ((U : Int) / 4294967296) = (db : Int) := by rw [IntKind.wrap_u8]; have h9 : U / 4294967296 % 256 = db := gdb; omega
        have hw9 : IntKind.i64.wrap 32 = 32 := rfl
        have hd1 : decide ((0 : Int) ≤ 4) = true := rfl
        replace hsb : IntKind.i64.wrap (4 - 1) = 7 - ((4 : Nat) : Int) := hsb
        clear hd0 h8m gdb hlt hk
        rw [show (7 : Int) - ((3 : Nat) : Int) = 4 from rfl]
        go_wp2_with (first
          | (at_builtin
             refine wl_run (some 22) rfl (by rfl) (exec_append (by rfl) (by rfl) (by rfl) hrun) ?_))
        go_roundw
        case rel => exact ⟨4, N + 1, A3, c3, by omega, by first | rfl | simp, rfl, Lib.hid (by have := HN.out; omega), HO3⟩
        case measure => first | (simp [intOf]; done) | (simp [intOf]; omega) | decide
      · have hw8 : IntKind.u8.wrap ((U : Int) / 16777216) = (db : Int) := by rw [IntKind.wrap_u8]; have h9 : U / 16777216 % 256 = db := gdb; omega
        have hw9 : IntKind.i64.wrap 24 = 24 := rfl
        have hd1 : decide ((0 : Int) ≤ 3) = true := rfl
        replace hsb : IntKind.i64.wrap (3 - 1) = 7 - ((5 : Nat) : Int) := hsb
        clear hd0 h8m gdb hlt hk
        rw [show (7 : Int) - ((4 : Nat) : Int) = 3 from rfl]
        go_wp2_with (first
          | (at_builtin
             refine wl_run (some 22) rfl (by rfl) (exec_append (by rfl) (by rfl) (by rfl) hrun) ?_))
        go_roundw
        case rel => exact ⟨5, N + 1, A3, c3, by omega, by first | rfl | simp, rfl, Lib.hid (by have := HN.out; omega), HO3⟩
        case measure => first | (simp [intOf]; done) | (simp [intOf]; omega) | decide
      · have hw8 : IntKind.u8.wrap ((U : Int) / 65536) = (db : Int) := by rw [IntKind.wrap_u8]; have h9 : U / 65536 % 256 = db := gdb; omega
        have hw9 : IntKind.i64.wrap 16 = 16 := rfl
        have hd1 : decide ((0 : Int) ≤ 2) = true := rfl
        replace hsb : IntKind.i64.wrap (2 - 1) = 7 - ((6 : Nat) : Int) := hsb
        clear hd0 h8m gdb hlt hk
        rw [show (7 : Int) - ((5 : Nat) : Int) = 2 from rfl]
        go_wp2_with (first
          | (at_builtin
             refine wl_run (some 22) rfl (by rfl) (exec_append (by rfl) (by rfl) (by rfl) hrun) ?_))
        go_roundw
        case rel => exact ⟨6, N + 1, A3, c3, by omega, by first | rfl | simp, rfl, Lib.hid (by have := HN.out; omega), HO3⟩
        case measure => first | (simp [intOf]; done) | (simp [intOf]; omega) | decide
      · have hw8 : IntKind.u8.wrap ((U : Int) / 256) = (db : Int) := by rw [IntKind.wrap_u8]; have h9 : U / 256 % 256 = db := gdb; omega
        have hw9 : IntKind.i64.wrap 8 = 8 := rfl
        have hd1 : decide ((0 : Int) ≤ 1) = true := rfl
        replace hsb : IntKind.i64.wrap (1 - 1) = 7 - ((7 : Nat) : Int) := hsb
        clear hd0 h8m gdb hlt hk
        rw [show (7 : Int) - ((6 : Nat) : Int) = 1 from rfl]
        go_wp2_with (first
          | (at_builtin
             refine wl_run (some 22) rfl (by rfl) (exec_append (by rfl) (by rfl) (by rfl) hrun) ?_))
        go_roundw
        case rel => exact ⟨7, N + 1, A3, c3, by omega, by first | rfl | simp, rfl, Lib.hid (by have := HN.out; omega), HO3⟩
        case measure => first | (simp [intOf]; done) | (simp [intOf]; omega) | decide
      · have hw8 : IntKind.u8.wrap ((U : Int)) = (db : Int) := by rw [IntKind.wrap_u8]; have h9 : U / 1 % 256 = db := gdb; omega
        have hw9 : IntKind.i64.wrap 0 = 0 := rfl
        have hd1 : decide ((0 : Int) ≤ 0) = true := rfl
        replace hsb : IntKind.i64.wrap (0 - 1) = 7 - ((8 : Nat) : Int) := hsb
        clear hd0 h8m gdb hlt hk
        rw [show (7 : Int) - ((7 : Nat) : Int) = 0 from rfl]
        go_wp2_with (first
          | (at_builtin
             refine wl_run (some 22) rfl (by rfl) (exec_append (by rfl) (by rfl) (by rfl) hrun) ?_))
        go_roundw
        case rel => exact ⟨8, N + 1, A3, c3, by omega, by first | rfl | simp, rfl, Lib.hid (by have := HN.out; omega), HO3⟩
        case measure => first | (simp [intOf]; done) | (simp [intOf]; omega) | decide
    · obtain rfl : k = 8 := by omega
      have hd0 : decide ((0 : Int) ≤ 7 - ((8 : Nat) : Int)) = false := rfl
      have HG : RowKit.Hid (∃ A c, Value.slice A2 N c2 = .slice A N c ∧ Gives8 w (L ++ (beN 8 U).take 8) (.returned (.slice A N c)) wr) := Lib.hid (gives8_ow (by rw [Hl8.out, HN.out]) HO.out)
      clear hlt hk
      go_wp2
      go_ret
      obtain ⟨A9, c9, e9, h9⟩ := HG.out
      injection e9 with a1 a2 a3
      subst a1 a3
      exact h9
end Go.Proofs.YtmkflebkifbpfaaGreat
/- The document's Text, TakeNum, TakeText. -/
namespace Go.Proofs.YtmkflebkifbpfaaGreat
open Go.RowKit
set_option maxRecDepth 100000 in
set_option maxHeartbeats 4000000 in
theorem rtext_any (A : Option Addr) (c : Nat) (L : List Nat) (s : ByteArray) (w : World) (h : RdS w w.heap.size 1 A L.length c (rowsV f8 L)) (hn : L.length ≤ 900000) (hs : s.size ≤ 10000) :
    Calls Tryz.prog 17 #[.slice A L.length c, .string s] w (Gives8 w (L ++ textB s)) := by
  obtain ⟨i0, hi, hz0, hz1, hz2⟩ := info_parts_ info_u8
  obtain ⟨A1, c1, w1, hrun, how, hbw⟩ := fresh_copy (P := Tryz.prog) w 27 27 5 i0 _ 1 1 Tryz.underlying27 hi hz0 hz1 hz2 rfl (by decide) A L.length c _ h (f8_all L) (by omega) (by decide)
  have ho1 : Ow w w.heap.size 5 1 (.slice A1 L.length c1) L.length (rowsV f8 L) w1 := ⟨how, hbw, Nat.le_refl _, hbw.size⟩
  have e1 : (L ++ [s.size % 256] ++ tB s).length = L.length + 1 + s.size := by simp [tB_len]; omega
  rw [show L ++ textB s = L ++ [s.size % 256] ++ tB s from by rw [textB, List.append_assoc]]
  obtain ⟨S, gS⟩ : ∃ S, s.size = S := ⟨_, rfl⟩
  have Hs := Lib.hid gS
  have hsz : (s.size : Int) = (S : Int) := by rw [gS]
  rw [gS] at e1 hs ⊢
  have hw8 : IntKind.u8.wrap (S : Int) = ((S % 256 : Nat) : Int) := by rw [IntKind.wrap_u8]; omega
  obtain ⟨S8, gS8⟩ : ∃ z, S % 256 = z := ⟨_, rfl⟩
  rw [gS8] at e1 hw8 ⊢
  obtain ⟨A2, c2, w2, hrun2, ho2, -⟩ := app8 27 (Ow.up ho1 (below1 w1 (.cells #[.int .u8 (S8 : Int)] 5))) (one8 w1 S8) (by omega)
  obtain ⟨c3, w3, hrun3, hr3, hb3⟩ := conv_str s w2
  rw [gS] at hrun3 hr3
  obtain ⟨A4, c4, w4, hrun4, ho4, -⟩ := app8 27 (Ow.up ho2 hb3) hr3 (by omega)
  have He1 := Lib.hid e1
  have HO4 := Lib.hid ho4
  obtain ⟨n, gn⟩ : ∃ n, L.length = n := ⟨_, rfl⟩
  rw [gn] at hrun hrun2 hrun4 HO4 He1 ⊢
  clear h hn how hbw ho1 ho2 hr3 hb3 ho4 e1 gn gS gS8 hi hz0 hz1 hz2 hs
  go_enter Tryz.func17, Tryz.ntmps17
  go_upto_region 2 with (first
    | (at_builtin
       refine wl_run (some 8) rfl (by rfl) (exec_append (by rfl) (by rfl) (by rfl) hrun) ?_))
  clear hrun
  go_upto_region 3 with (first
    | (at_builtin
       refine wl_run (some 14) rfl (by rfl) (exec_append (by rfl) (by rfl) (by rfl) hrun2) ?_))
  clear hrun2
  refine wp_region_lit ?_
  refine wl_read (v := ?_) (some 15) rfl (by rfl) ?_ ?_
  rotate_left
  · go_simp; (try with_reducible rfl)
  simp only [Act.put, stA_, st0_, st1_]
  refine wl_read (v := ?_) (some 16) rfl (by rfl) ?_ ?_
  rotate_left
  · go_simp; (try with_reducible rfl)
  simp only [Act.put, stA_, st0_, st1_]
  refine wl_run (some 17) rfl (by rfl) (exec_convert_w 9 27 (.tmp 16) rfl rfl hrun3) ?_
  simp only [Act.put, stA_, st0_, st1_]
  clear hrun3
  go_wp2_with (first
    | (at_builtin
       refine wl_run (some 18) rfl (by rfl) (exec_append (by rfl) (by rfl) (by rfl) hrun4) ?_))
  go_ret
  obtain ⟨A9, c9, e9, h9⟩ := gives8_ow He1.out HO4.out
  injection e9 with a1 a2 a3
  subst a1 a3
  exact h9
theorem u64_step (X b : Nat) (hX : X < 72057594037927936) (hb : b < 256) : IntKind.u64.wrap (256 * (X : Int)) = ((256 * X : Nat) : Int) ∧ IntKind.u64.wrap (((256 * X : Nat) : Int) + (b : Int)) = ((X * 256 + b : Nat) : Int) := by
  constructor <;> · rw [IntKind.wrap_u64]; omega
end Go.Proofs.YtmkflebkifbpfaaGreat
/- The document's TakeText. -/
namespace Go.Proofs.YtmkflebkifbpfaaGreat
open Go.RowKit
end Go.Proofs.YtmkflebkifbpfaaGreat
/- The laws' types of layer 8: bytes. -/
namespace Go.Proofs.YtmkflebkifbpfaaGreat
open Go.ChangeShapes Go.WideShapes Go.ChangeAt Go.RowKit
theorem row1_byte (H : Type) : Row1 H Tryz.prog 5 f8 (fun _ b => b < 256) := by
  intro enc w held fuel cs x h
  obtain ⟨n, rfl, _, hw⟩ := DataW.trod_int Tryz.underlying5 h
  have hb := bounds_u8 hw
  refine ⟨n.toNat, ?_, by omega⟩
  have e : ((n.toNat : Nat) : Int) = n := by omega
  simp [f8, e]
end Go.Proofs.YtmkflebkifbpfaaGreat
/- What Put tells, in one. -/
namespace Go.Proofs.YtmkflebkifbpfaaGreat
open Go.RowKit
/-- What Put lays down, and nothing where it says that the diagram may not be. -/
def pb (Vs : List VC) (Es : List EC) : List Nat := if mayF7 Vs Es = 0 then putD (Vs.map vS) Es else []
end Go.Proofs.YtmkflebkifbpfaaGreat
/- The document's place (of an edge), Put (of a name). -/
namespace Go.Proofs.YtmkflebkifbpfaaGreat
open Go.RowKit
def rplF : Nat → List EC → Int × Int → Nat
  | _, [], _ => 0
  | j, e :: L, x => if e.1 = x then j else rplF (j + 1) L x
theorem rplF_idx : ∀ (L : List EC) (j : Nat) (x : Int × Int), x ∈ L.map (·.1) → rplF j L x = j + (L.map (·.1)).idxOf x
  | [], _, _, h => by cases h
  | e :: L, j, x, h => by
    unfold rplF
    rw [List.map_cons, List.idxOf_cons]
    by_cases hx : e.1 = x
    · rw [if_pos hx, hx]
      simp
    · have h9 : x ∈ L.map (·.1) := by
        rcases List.mem_cons.1 h with q | q
        · exact absurd q.symm hx
        · exact q
      rw [if_neg hx, rplF_idx L (j + 1) x h9, cond_eq_ite, if_neg (by simpa using hx)]
      omega
theorem rplF_pl {Es : List EC} {x : Int × Int} (h : x ∈ Es.map (·.1)) : rplF 0 Es x = plE Es x := by
  rw [rplF_idx Es 0 x h, Nat.zero_add]
  rfl
set_option maxRecDepth 100000 in
set_option maxHeartbeats 4000000 in
theorem rplace8_any (A : Option Addr) (n c : Nat) (B : Option Addr) (m k : Nat) (Es : List EC) (x1 x2 : Int) (w : World) (h : RdS w w.heap.size 4 B m k (rowsV eC Es)) (hm : m ≤ 1000000) :
    Calls Tryz.prog 19 #[.agg #[.slice A n c, .slice B m k], .agg #[.int .i64 x1, .int .i64 x2]] w fun e w' => e = .returned (.int .i64 (rplF 0 Es (x1, x2) : Nat)) ∧ Below w.heap.size w w' := by
  have HV := Lib.hid h
  have Hlv := Lib.hid (h.rlen eC_len (by decide))
  obtain ⟨p, gp⟩ : ∃ z, rplF 0 Es (x1, x2) = z := ⟨_, rfl⟩
  have HP := Lib.hid gp
  rw [gp]
  clear h gp
  go_enter Tryz.func19, Tryz.ntmps19
  go_upto_region 1 with fail
  have hx0 : Whole ((w.alloc (.cells #[.slice A n c, .slice B m k] 25)).alloc (.cells #[.int .i64 x1, .int .i64 x2] 41)) (w.heap.size) 25 [.slice A n c, .slice B m k] := ((Whole.new_ w 25 [.slice A n c, .slice B m k]).alloc (.cells #[.int .i64 x1, .int .i64 x2] 41))
  have hx1 : Whole ((w.alloc (.cells #[.slice A n c, .slice B m k] 25)).alloc (.cells #[.int .i64 x1, .int .i64 x2] 41)) (w.heap.size + 1) 41 [.int .i64 x1, .int .i64 x2] := (Whole.new2 (w := (w.alloc (.cells #[.slice A n c, .slice B m k] 25))) (by simp))
  have hbl : Below w.heap.size w ((w.alloc (.cells #[.slice A n c, .slice B m k] 25)).alloc (.cells #[.int .i64 x1, .int .i64 x2] 41)) := (bel_al (below1 w (.cells #[.slice A n c, .slice B m k] 25)) (.cells #[.int .i64 x1, .int .i64 x2] 41))
  have hsz : w.heap.size + 1 + 1 ≤ (((w.alloc (.cells #[.slice A n c, .slice B m k] 25)).alloc (.cells #[.int .i64 x1, .int .i64 x2] 41))).heap.size := by simp
  obtain ⟨W0, gW0⟩ : ∃ z, ((w.alloc (.cells #[.slice A n c, .slice B m k] 25)).alloc (.cells #[.int .i64 x1, .int .i64 x2] 41)) = z := ⟨_, rfl⟩
  rw [gW0] at hx0 hx1 hbl hsz
  obtain ⟨b1, gb1⟩ : ∃ z, w.heap.size + 1 = z := ⟨_, rfl⟩
  rw [gb1] at hx1
  obtain ⟨b0, gb0⟩ : ∃ z, w.heap.size = z := ⟨_, rfl⟩
  rw [gb0] at hx0
  have HX0 := Lib.hid hx0
  have HX1 := Lib.hid hx1
  have HB0 := Lib.hid hbl
  have HS0 := Lib.hid hsz
  have Gb0 := Lib.hid gb0
  have Lb0 : RowKit.Hid (w.heap.size ≤ b0) := Lib.hid (by omega)
  have Gb1 := Lib.hid gb1
  have Lb1 : RowKit.Hid (w.heap.size ≤ b1) := Lib.hid (by omega)
  have N01 : RowKit.Hid (b0 ≠ b1) := Lib.hid (by omega)
  rw [gW0, gb1, gb0]
  clear gW0 hbl hsz hx0 hx1 gb0 gb1
  go_wp2
  go_loopw [5] (fun si wr => ∃ j : Nat, j ≤ m ∧ si = .int .i64 j ∧ RowKit.Hid (Below W0.heap.size W0 wr) ∧ RowKit.Hid (p = rplF j (Es.drop j) (x1, x2))) (fun si _ => m - (intOf si).toNat)
  case atStart => exact ⟨0, by omega, rfl, Lib.hid (Below.refl _ _), Lib.hid HP.out.symm⟩
  case round =>
    obtain ⟨j, hj, rfl, HBr, HE⟩ := hrel
    obtain ⟨wo, gwo⟩ : ∃ z, wr = z := ⟨_, rfl⟩
    rw [gwo] at HBr ⊢
    clear gwo
    have HXo := Lib.hid (HX0.out.bl HBr.out)
    have HYo := Lib.hid (HX1.out.bl HBr.out)
    have cb := HXo.out.cell (i := 1) rfl
    by_cases hjn : j < m
    · obtain ⟨v, hx⟩ : ∃ v, Es[j]? = some v := ⟨_, List.getElem?_eq_getElem (by have := Hlv.out; omega)⟩
      have hdr : Es.drop j = v :: Es.drop (j + 1) := by
        rw [List.drop_eq_getElem_cons (List.getElem?_eq_some_iff.1 hx).1, (List.getElem?_eq_some_iff.1 hx).2]
      have HE2 := HE.out
      rw [hdr, rplF] at HE2
      have HE3 := Lib.hid HE2
      have HB := Lib.hid (HB0.out.trans (HBr.out.mono HB0.out.size))
      obtain ⟨bb, off, rfl, hbB, hpl⟩ := HV.out.place eC_len (by decide) (by omega)
      have hbw := HB.out
      have q0 := hpl j _ hx 0 _ rfl
      have q1 := hpl j _ hx 1 _ rfl
      have q2 := hpl j _ hx 2 _ rfl
      have q3 := hpl j _ hx 3 _ rfl
      simp only [Addr.add_lit, Nat.add_zero] at q0 q1 q2 q3
      have l0 := (hbw.cell (p := ⟨bb, off + j * 4, none⟩) hbB).trans q0
      have l1 := (hbw.cell (p := ⟨bb, off + j * 4 + 1, none⟩) hbB).trans q1
      have l2 := (hbw.cell (p := ⟨bb, off + j * 4 + 2, none⟩) hbB).trans q2
      have l3 := (hbw.cell (p := ⟨bb, off + j * 4 + 3, none⟩) hbB).trans q3
      clear hbw q0 q1 q2 q3
      obtain ⟨⟨i1, i2⟩, lb, at_⟩ := v
      have he := eq_id i1 i2 x1 x2
      have hd : (i1 == x1 && i2 == x2) = decide (((i1, i2) : I2) = (x1, x2)) := by
        by_cases h1 : i1 = x1 <;> by_cases h2 : i2 = x2 <;> simp [h1, h2]
      obtain ⟨b, gb⟩ : ∃ z, decide (((i1, i2) : I2) = (x1, x2)) = z := ⟨_, rfl⟩
      rw [hd, gb] at he
      have Hb := Lib.hid gb
      clear hx hdr HE2 hpl hbB HE hd gb
      go_upto_region 4 with fail
      clear cb
      have ld0 : ∀ w', Kept Nil_ wo.drew w' → w'.cell? ⟨b0, 1, none⟩ = some (.slice (some ⟨bb, off, none⟩) m k) := fun w' h => h.nil_cell (HXo.out.dr.cell (i := 1) rfl)
      have ld1 : ∀ w', Kept Nil_ wo.drew w' → w'.cell? ⟨b1, 0, none⟩ = some (.int .i64 x1) := fun w' h => h.nil_cell (HYo.out.dr.cell (i := 0) rfl)
      have ld2 : ∀ w', Kept Nil_ wo.drew w' → w'.cell? ⟨b1, 1, none⟩ = some (.int .i64 x2) := fun w' h => h.nil_cell (HYo.out.dr.cell (i := 1) rfl)
      have ld3 : ∀ w', Kept Nil_ wo.drew w' → w'.cell? ⟨bb, off + j * 4, none⟩ = some (.int .i64 i1) := fun w' h => h.nil_cell (show wo.drew.cell? _ = _ from l0)
      have ld4 : ∀ w', Kept Nil_ wo.drew w' → w'.cell? ⟨bb, off + j * 4 + 1, none⟩ = some (.int .i64 i2) := fun w' h => h.nil_cell (show wo.drew.cell? _ = _ from l1)
      refine wp_region_reg (Nil_) (by kernel_rfl) ?_
      refine opR_ 0 13 (v := ?_) ?_ ?_; rotate_left
      · intro w' hw'; go_simp; (try with_reducible rfl)
      simp only [st0_, st1_]
      refine opR_ 1 14 (v := ?_) ?_ ?_; rotate_left
      · intro w' hw'; go_simp; (try with_reducible rfl)
      simp only [st0_, st1_]
      refine opR_ 2 15 (v := ?_) ?_ ?_; rotate_left
      · intro w' hw'; go_simp; (try with_reducible rfl)
      simp only [st0_, st1_]
      refine opR_ 3 16 (v := ?_) ?_ ?_; rotate_left
      · intro w' hw'; go_simp; (try with_reducible rfl)
      simp only [st0_, st1_]
      refine opR_ 4 17 (v := ?_) ?_ ?_; rotate_left
      · intro w' hw'; go_simp; (try with_reducible rfl)
      simp only [st0_, st1_]
      refine opR_ 5 18 (v := ?_) ?_ ?_; rotate_left
      · intro w' hw'; go_simp; (try with_reducible rfl)
      simp only [st0_, st1_]
      refine opR_ 6 19 (v := ?_) ?_ ?_; rotate_left
      · intro w' hw'; go_simp; (try with_reducible rfl)
      simp only [st0_, st1_]
      refine opX_ 7 20 ?_
      apply Exists.intro
      apply And.intro
      · exact yr_run (by rfl) (fun w' hw' => exec_binop_agg .eql 41 (.tmp 18) (.tmp 19) 41 rfl rfl rfl (by kernel_rfl) (he w'))
      simp only [st0_, st1_]
      refine wpR_done (by kernel_rfl) ?_ _
      intro W8 hw8
      have HB8 := Lib.hid (bel_bl (bel_dr HBr.out) hw8)
      clear hw8 ld0 ld1 ld2 ld3 ld4 l0 l1 l2 l3
      cases b with
      | true =>
        have hp : p = j := by rw [HE3.out, if_pos (of_decide_eq_true Hb.out)]
        clear HE3
        subst hp
        go_wp2
        go_ret
        exact ⟨rfl, HB0.out.trans (HB8.out.mono HB0.out.size)⟩
      | false =>
        have HE4 : RowKit.Hid (p = rplF (j + 1) (Es.drop (j + 1)) (x1, x2)) := Lib.hid (by rw [HE3.out, if_neg (of_decide_eq_false Hb.out)])
        go_wp2
        go_roundw
        case rel => exact ⟨j + 1, by omega, by go_num, HB8, HE4⟩
        case measure => simp [intOf] <;> omega
    · obtain rfl : m = j := by omega
      have hp : p = 0 := by
        rw [HE.out, List.drop_eq_nil_of_le (by have := Hlv.out; omega)]; rfl
      clear HE
      subst hp
      go_wp2
      go_ret
      exact ⟨rfl, HB0.out.trans (HBr.out.mono HB0.out.size)⟩
set_option maxRecDepth 100000 in
set_option maxHeartbeats 4000000 in
theorem ridput_any (A : Option Addr) (c : Nat) (L : List Nat) (x1 x2 : Int) (w : World) (h : RdS w w.heap.size 1 A L.length c (rowsV f8 L)) (hn : L.length ≤ 900000) (hm : mayI x1 x2 = true) :
    Calls Tryz.prog 18 #[.slice A L.length c, .agg #[.int .i64 x1, .int .i64 x2]] w (Gives8 w (L ++ idB (x1, x2))) := by
  obtain ⟨i0, hi, hz0, hz1, hz2⟩ := info_parts_ info_u8
  have HR := Lib.hid h
  obtain ⟨n, gn⟩ : ∃ n, L.length = n := ⟨_, rfl⟩
  have Gn := Lib.hid gn
  rw [gn] at HR hn ⊢
  have hx : 1 ≤ x1 ∧ x1 ≤ 8 ∧ 1 ≤ x2 ∧ x2 ≤ 1048576 := by simpa [mayI] using hm
  have HX1 : RowKit.Hid (Whole (w.alloc (.cells #[.int .i64 x1, .int .i64 x2] 41)) w.heap.size 41 [.int .i64 x1, .int .i64 x2]) := Lib.hid (Whole.new_ _ _ [_, _])
  have HR1 := Lib.hid (HR.out.al (.cells #[.int .i64 x1, .int .i64 x2] 41))
  have HB1 := Lib.hid (below1 w (.cells #[.int .i64 x1, .int .i64 x2] 41))
  clear h gn hm
  go_enter Tryz.func18, Tryz.ntmps18
  go_upto_region 1 with fail
  obtain ⟨w1, gw1⟩ : ∃ z, w.alloc (.cells #[.int .i64 x1, .int .i64 x2] 41) = z := ⟨_, rfl⟩
  obtain ⟨b0, gb0⟩ : ∃ z, w.heap.size = z := ⟨_, rfl⟩
  rw [gw1] at HX1 HR1 HB1 ⊢
  rw [gb0] at HX1 ⊢
  have Gb0 := Lib.hid gb0
  clear gw1 gb0
  obtain ⟨A2, c2, w2, hrun, hown, hb2⟩ := fresh_copy (P := Tryz.prog) w1 27 27 5 i0 _ 1 1 Tryz.underlying27 hi hz0 hz1 hz2 rfl (by decide) A n c _ HR1.out (f8_all L) (by omega) (by decide)
  have HX2 := Lib.hid (HX1.out.bl hb2)
  have HO2 : RowKit.Hid (Ow w1 w1.heap.size 5 1 (.slice A2 n c2) n (rowsV f8 L) w2) := Lib.hid ⟨hown, hb2, Nat.le_refl _, hb2.size⟩
  clear hown hb2 HR1
  go_upto_region 2 with (first
    | (at_builtin
       refine wl_run (some 8) rfl (by rfl) (exec_append (by rfl) (by rfl) (by rfl) hrun) ?_
       clear hrun))
  obtain ⟨q1, g1⟩ : ∃ z, (x1 % 256).toNat = z := ⟨_, rfl⟩
  obtain ⟨q2, g2⟩ : ∃ z, (x2 / 65536 % 256).toNat = z := ⟨_, rfl⟩
  obtain ⟨q3, g3⟩ : ∃ z, (x2 / 256 % 256).toNat = z := ⟨_, rfl⟩
  obtain ⟨q4, g4⟩ : ∃ z, (x2 % 256).toNat = z := ⟨_, rfl⟩
  have hid4 : idB (x1, x2) = [q1, q2, q3, q4] := by rw [← g1, ← g2, ← g3, ← g4]; rfl
  obtain ⟨z2, e2⟩ : ∃ z, x2 / 65536 = z := ⟨_, rfl⟩
  obtain ⟨z3, e3⟩ : ∃ z, x2 / 256 = z := ⟨_, rfl⟩
  obtain ⟨z5, e5⟩ : ∃ z, z3 % 256 = z := ⟨_, rfl⟩
  obtain ⟨z4, e4⟩ : ∃ z, x2 % 256 = z := ⟨_, rfl⟩
  have u1 : IntKind.u8.wrap x1 = (q1 : Int) := by rw [IntKind.wrap_u8]; omega
  have t2 : x2.tdiv 65536 = z2 := by rw [Int.tdiv_eq_ediv_of_nonneg (by omega)]; exact e2
  have v2 : IntKind.i64.wrap z2 = z2 := IntWalk.i64_in _ (by omega)
  have u2 : IntKind.u8.wrap z2 = (q2 : Int) := by rw [IntKind.wrap_u8]; omega
  have t3 : x2.tdiv 256 = z3 := by rw [Int.tdiv_eq_ediv_of_nonneg (by omega)]; exact e3
  have v3 : IntKind.i64.wrap z3 = z3 := IntWalk.i64_in _ (by omega)
  have t5 : z3.tmod 256 = z5 := by rw [Int.tmod_eq_emod_of_nonneg (by omega)]; exact e5
  have v5 : IntKind.i64.wrap z5 = z5 := IntWalk.i64_in _ (by omega)
  have u3 : IntKind.u8.wrap z5 = (q3 : Int) := by rw [IntKind.wrap_u8]; omega
  have t4 : x2.tmod 256 = z4 := by rw [Int.tmod_eq_emod_of_nonneg (by omega)]; exact e4
  have v4 : IntKind.i64.wrap z4 = z4 := IntWalk.i64_in _ (by omega)
  have u4 : IntKind.u8.wrap z4 = (q4 : Int) := by rw [IntKind.wrap_u8]; omega
  have HR4 : RowKit.Hid (RdS (w2.alloc (.cells #[.int .u8 (q1 : Int), .int .u8 (q2 : Int), .int .u8 (q3 : Int), .int .u8 (q4 : Int)] 5)) (w2.alloc (.cells #[.int .u8 (q1 : Int), .int .u8 (q2 : Int), .int .u8 (q3 : Int), .int .u8 (q4 : Int)] 5)).heap.size 1 (some ⟨w2.heap.size, 0, none⟩) 4 4 (rowsV f8 [q1, q2, q3, q4])) := Lib.hid (RdS.of_whole8 (Whole.new_ _ _ [_, _, _, _]) rfl)
  obtain ⟨A3, c3, w3, hrun, ho3, -⟩ := app8 27 (HO2.out.up (below1 w2 (.cells #[.int .u8 (q1 : Int), .int .u8 (q2 : Int), .int .u8 (q3 : Int), .int .u8 (q4 : Int)] 5))) HR4.out (by omega)
  have HO3 := Lib.hid ho3
  have Hid4 := Lib.hid hid4
  have c0 := HX2.out.cell (i := 0) rfl
  have c1 := HX2.out.cell (i := 1) rfl
  clear ho3 hid4 HR4 g1 g2 g3 g4 e2 e3 e4 e5 HO2 HX1 HX2
  go_wp2_with (first
    | (at_builtin
       refine wl_run (some 27) rfl (by rfl) (exec_append (by rfl) (by rfl) (by rfl) hrun) ?_
       clear hrun))
  have hE := HO3.out.below
  obtain ⟨A9, c9, q9, hG⟩ := gives8_ow (w := w) (L := L ++ [q1, q2, q3, q4]) (N := n + 4) (v := .slice A3 (n + 4) c3) (w' := w3) (by rw [List.length_append, Gn.out]; rfl) ⟨own_lo8 HO3.out.own HB1.out.size, HB1.out.trans (hE.mono HB1.out.size), Nat.le_refl _, (HB1.out.trans (hE.mono HB1.out.size)).size⟩
  rw [← q9] at hG
  go_ret
  rw [Hid4.out]
  exact hG
end Go.Proofs.YtmkflebkifbpfaaGreat
/- The document's Put. -/
namespace Go.Proofs.YtmkflebkifbpfaaGreat
open Go.RowKit
set_option maxRecDepth 100000 in
set_option maxHeartbeats 4000000 in
theorem rput_not (A : Option Addr) (n c : Nat) (Vs : List VC) (B : Option Addr) (m k : Nat) (Es : List EC) (w : World) (h : DgIn w A n c Vs B m k Es) (hg : GoodD Vs Es) (hr : ∀ x ∈ Vs, x.2.1.2.1 ≤ 1000000) (hm : mayF7 Vs Es ≠ 0) :
    Calls Tryz.prog 8 #[.agg #[.slice A n c, .slice B m k]] w fun e w' => e = .returned (.tuple #[.slice none 0 0, .int .i64 (mayF7 Vs Es)]) ∧ Below w.heap.size w w' := by
  have HM := Lib.hid (rmay7b_any (A := A) (n := n) (c := c) (B := B) (m := m) (k := k) hr hg)
  have HD := Lib.hid h
  obtain ⟨x, gx⟩ : ∃ z, mayF7 Vs Es = z := ⟨_, rfl⟩
  rw [gx] at HM hm ⊢
  have hne : (x != 0) = true := bne_iff_ne.2 hm
  clear h hg hr hm gx
  go_enter Tryz.func8, Tryz.ntmps8
  go_upto_region 1 with fail
  have hx0 : Whole (w.alloc (.cells #[.slice A n c, .slice B m k] 25)) (w.heap.size) 25 [.slice A n c, .slice B m k] := (Whole.new_ w 25 [.slice A n c, .slice B m k])
  have hbl : Below w.heap.size w (w.alloc (.cells #[.slice A n c, .slice B m k] 25)) := (below1 w (.cells #[.slice A n c, .slice B m k] 25))
  have hsz : w.heap.size + 1 ≤ ((w.alloc (.cells #[.slice A n c, .slice B m k] 25))).heap.size := by simp
  obtain ⟨W0, gW0⟩ : ∃ z, (w.alloc (.cells #[.slice A n c, .slice B m k] 25)) = z := ⟨_, rfl⟩
  rw [gW0] at hx0 hbl hsz
  obtain ⟨b0, gb0⟩ : ∃ z, w.heap.size = z := ⟨_, rfl⟩
  rw [gb0] at hx0
  have HX0 := Lib.hid hx0
  have HB0 := Lib.hid hbl
  have HS0 := Lib.hid hsz
  have Gb0 := Lib.hid gb0
  have Lb0 : RowKit.Hid (w.heap.size ≤ b0) := Lib.hid (by omega)
  rw [gW0, gb0]
  clear gW0 hbl hsz hx0 gb0
  have c0 := HX0.out.cell (i := 0) rfl
  have c1 := HX0.out.cell (i := 1) rfl
  have HD0 := Lib.hid (HD.out.bl HB0.out)
  go_wp2_with (first | (go_at_call 12; refine (HM.out _ HD0.out).mono ?_; rintro e w2 ⟨rfl, hb2⟩; have HB2 := Lib.hid (Ext.trans HB0.out hb2); clear hb2 c0 c1))
  exact bodyPost_ret (v := .tuple #[.slice none 0 0, .int .i64 x]) (by simp [results, Tryz.results8, go_sem]) rfl ⟨rfl, HB2.out⟩
/-- What the parts of a head are appended by, one upon the other. -/
theorem rhead3 {X : List Nat} {N : Nat} {x1 x2 : Int} {el : ByteArray} (et : Int) (hN : X.length = N) (hX : N ≤ 4000) (hi : mayI x1 x2 = true) (he : el.size ≤ 16) :
    ∃ X1 X2 X3 N1 N2 N3, X3 = X ++ headB (x1, x2) el et ∧ X3.length = N3 ∧
      (∀ (A : Option Addr) (c : Nat) W, RdS W W.heap.size 1 A N c (rowsV f8 X) → Calls Tryz.prog 18 #[.slice A N c, .agg #[.int .i64 x1, .int .i64 x2]] W fun e w' => ∃ A' c', e = .returned (.slice A' N1 c') ∧ RdS w' w'.heap.size 1 A' N1 c' (rowsV f8 X1) ∧ Below W.heap.size W w') ∧
      (∀ (A : Option Addr) (c : Nat) W, RdS W W.heap.size 1 A N1 c (rowsV f8 X1) → Calls Tryz.prog 17 #[.slice A N1 c, .string el] W fun e w' => ∃ A' c', e = .returned (.slice A' N2 c') ∧ RdS w' w'.heap.size 1 A' N2 c' (rowsV f8 X2) ∧ Below W.heap.size W w') ∧
      (∀ (A : Option Addr) (c : Nat) W, RdS W W.heap.size 1 A N2 c (rowsV f8 X2) → Calls Tryz.prog 16 #[.slice A N2 c, .int .i64 et] W fun e w' => ∃ A' c', e = .returned (.slice A' N3 c') ∧ w'.ownsRow W.heap.size 5 1 (.slice A' N3 c') N3 (rowsV f8 X3) ∧ Below W.heap.size W w') := by
  subst hN
  have l1 : (X ++ idB (x1, x2)).length = X.length + 4 := by rw [List.length_append]; rfl
  have l2 : (X ++ idB (x1, x2) ++ textB el).length ≤ 4100 := by rw [List.length_append, l1, textB, List.length_append, List.length_singleton, tB_len]; omega
  refine ⟨X ++ idB (x1, x2), X ++ idB (x1, x2) ++ textB el, X ++ idB (x1, x2) ++ textB el ++ be8 et, (X ++ idB (x1, x2)).length, (X ++ idB (x1, x2) ++ textB el).length, (X ++ idB (x1, x2) ++ textB el ++ be8 et).length, by unfold headB; simp only [List.append_assoc], rfl, fun A c W h => ?_, fun A c W h => ?_, fun A c W h => ?_⟩
  · refine (ridput_any A c X x1 x2 W h (by omega) hi).mono ?_
    rintro e w' ⟨A', c', rfl, hr, -, -, hb⟩
    exact ⟨A', c', rfl, hr, hb⟩
  · refine (rtext_any A c _ el W h (by omega) (by omega)).mono ?_
    rintro e w' ⟨A', c', rfl, hr, -, -, hb⟩
    exact ⟨A', c', rfl, hr, hb⟩
  · refine (rnum_any A c _ et W h (by omega)).mono ?_
    rintro e w' ⟨A', c', rfl, -, -, ho, hb⟩
    exact ⟨A', c', rfl, ho, hb⟩
set_option maxRecDepth 100000 in
set_option maxHeartbeats 4000000 in
theorem rput_yes (A : Option Addr) (n c : Nat) (Vs : List VC) (B : Option Addr) (m k : Nat) (Es : List EC) (w : World) (h : DgIn w A n c Vs B m k Es) (hg : GoodD Vs Es) (hr : ∀ x ∈ Vs, x.2.1.2.1 ≤ 1000000) (hm : mayF7 Vs Es = 0) :
    Calls Tryz.prog 8 #[.agg #[.slice A n c, .slice B m k]] w fun e w' => ∃ A' c', e = .returned (.tuple #[.slice A' (putD (Vs.map vS) Es).length c', .int .i64 0]) ∧ w'.ownsRow w.heap.size 5 1 (.slice A' (putD (Vs.map vS) Es).length c') (putD (Vs.map vS) Es).length (rowsV f8 (putD (Vs.map vS) Es)) ∧ Below w.heap.size w w' := by
  have HMy := Lib.hid (rmay7b_any (A := A) (n := n) (c := c) (B := B) (m := m) (k := k) hr hg)
  rw [hm] at HMy
  have HD := Lib.hid h
  have HE := Lib.hid h.e
  have HV := Lib.hid h.v
  have HR := Lib.hid h.r
  have hf := may7_formed hm
  have HF := Lib.hid hf
  have Hle : RowKit.Hid (Es.length = m) := Lib.hid (h.e.rlen eC_len (by decide))
  have Hlv : RowKit.Hid (Vs.length = n) := Lib.hid (h.v.rlen vC_len (by decide))
  have hm40 : m ≤ 40 := by have := hf.e40; have := Hle.out; omega
  have hn24 : n ≤ 24 := by have := hf.v24; have := Hlv.out; omega
  have hP4 := putD_max hf
  have HGd := Lib.hid hg
  have HoE := Lib.hid hf.okE
  have HoV : RowKit.Hid (∀ v ∈ Vs, okV Es (vS v)) := Lib.hid (fun v hv => hf.okV (fun v hv => by have := hf.ring v hv; omega) (vS v) (List.mem_map.2 ⟨v, hv, rfl⟩))
  obtain ⟨Us, gUs⟩ : ∃ z, Vs.map vS = z := ⟨_, rfl⟩
  have HUs := Lib.hid gUs
  rw [gUs] at hP4 ⊢
  have hall := rest_all Es Us
  obtain ⟨P, gP⟩ : ∃ z, putD Us Es = z := ⟨_, rfl⟩
  rw [gP] at hP4 hall ⊢
  have HP4 := Lib.hid hP4
  rw [Hle.out] at hall
  have HUl : RowKit.Hid (Us.length = n) := Lib.hid (by rw [← gUs, List.length_map]; exact Hlv.out)
  obtain ⟨m8, gm8⟩ : ∃ z, m % 256 = z := ⟨_, rfl⟩
  rw [gm8] at hall
  have Hall := Lib.hid hall
  have hw8 : IntKind.u8.wrap (m : Int) = (m8 : Int) := by rw [IntKind.wrap_u8]; omega
  clear h hg hr hm hf gUs gP gm8 hall hP4
  go_enter Tryz.func8, Tryz.ntmps8
  go_upto_region 1 with fail
  have hx0 : Whole (w.alloc (.cells #[.slice A n c, .slice B m k] 25)) (w.heap.size) 25 [.slice A n c, .slice B m k] := (Whole.new_ w 25 [.slice A n c, .slice B m k])
  have hbl : Below w.heap.size w (w.alloc (.cells #[.slice A n c, .slice B m k] 25)) := (below1 w (.cells #[.slice A n c, .slice B m k] 25))
  have hsz : w.heap.size + 1 ≤ ((w.alloc (.cells #[.slice A n c, .slice B m k] 25))).heap.size := by simp
  obtain ⟨W0, gW0⟩ : ∃ z, (w.alloc (.cells #[.slice A n c, .slice B m k] 25)) = z := ⟨_, rfl⟩
  rw [gW0] at hx0 hbl hsz
  obtain ⟨b0, gb0⟩ : ∃ z, w.heap.size = z := ⟨_, rfl⟩
  rw [gb0] at hx0
  have HX0 := Lib.hid hx0
  have HB0 := Lib.hid hbl
  have HS0 := Lib.hid hsz
  have Gb0 := Lib.hid gb0
  have Lb0 : RowKit.Hid (w.heap.size ≤ b0) := Lib.hid (by omega)
  rw [gW0, gb0]
  clear gW0 hbl hsz hx0 gb0
  have c0 := HX0.out.cell (i := 0) rfl
  have c1 := HX0.out.cell (i := 1) rfl
  have HD0 := Lib.hid (HD.out.bl HB0.out)
  go_upto_region 4 with (first | (go_at_call 12; refine (HMy.out _ HD0.out).mono ?_; rintro e w2 ⟨rfl, hb2⟩; have HB2 : RowKit.Hid (Below w.heap.size w w2) := Lib.hid (Ext.trans HB0.out hb2); have HX2 := Lib.hid (HX0.out.bl hb2); clear hb2 c0 c1))
  have c1 := HX2.out.cell (i := 1) rfl
  go_upto_region 5 with fail
  clear c1 HX0 HB0 HS0 HD0 HMy hw8
  have HO3 : RowKit.Hid (Ow w w.heap.size 5 1 (.slice (some ⟨w2.heap.size, 0, none⟩) 1 1) 1 (rowsV f8 [m8]) (w2.alloc (.cells #[.int .u8 (m8 : Int)] 5))) := Lib.hid (Ow.new_ (cs := #[.int .u8 (m8 : Int)]) HB2.out (Nat.le_refl _) HB2.out.size (by unfold maxLen; omega) rfl)
  have HX3 := Lib.hid (HX2.out.al (.cells #[.int .u8 (m8 : Int)] 5))
  obtain ⟨w3, gw3⟩ : ∃ z, w2.alloc (.cells #[.int .u8 (m8 : Int)] 5) = z := ⟨_, rfl⟩
  rw [gw3] at HO3 HX3 ⊢
  obtain ⟨a1, ga1⟩ : ∃ z, (some (⟨w2.heap.size, 0, none⟩ : Addr)) = z := ⟨_, rfl⟩
  rw [ga1] at HO3 ⊢
  clear gw3 ga1 HX2 HB2
  have c1 := HX3.out.cell (i := 1) rfl
  go_wp2
  clear c1
  go_loopw [5, 6] (fun v si wr => ∃ (i N : Nat) (A2 : Option Addr) (c2 : Nat) (X : List Nat), i ≤ m ∧ si = .int .i64 i ∧ v = .slice A2 N c2 ∧ RowKit.Hid (Whole wr b0 25 [.slice A n c, .slice B m k]) ∧ RowKit.Hid (Ow w w.heap.size 5 1 (.slice A2 N c2) N (rowsV f8 X) wr) ∧ RowKit.Hid (X.length = N ∧ X ++ restE Es Us i = P)) (fun _ si _ => m - (intOf si).toNat)
  case atStart => exact ⟨0, 1, _, 1, [m8], by omega, rfl, rfl, HX3, HO3, Lib.hid ⟨rfl, Hall.out⟩⟩
  case round =>
    clear HX3 HO3
    obtain ⟨i, N, A2, c2, X, hi_, rfl, rfl, HX, HO, HXX⟩ := hrel
    obtain ⟨wo, gwo⟩ : ∃ z, wr = z := ⟨_, rfl⟩
    rw [gwo] at HX HO ⊢
    clear gwo
    have cb := HX.out.cell (i := 1) rfl
    by_cases him : i < m
    · obtain ⟨e, hx⟩ : ∃ e, Es[i]? = some e := ⟨_, List.getElem?_eq_getElem (by have := Hle.out; omega)⟩
      have hsz := HF.out.size.1 e (List.mem_of_getElem? hx)
      have hid := (HoE.out e (List.mem_of_getElem? hx)).1
      have hrs := HXX.out.2
      rw [restE_next hx, ← List.append_assoc] at hrs
      obtain ⟨eb, eo, gB, hbB, -⟩ := HE.out.place eC_len (by decide) (by omega)
      subst gB
      have hel := (HE.out.up HO.out.below HO.out.below.size).elem eC_len hx
      have l0 := hel 0 _ rfl
      have l1 := hel 1 _ rfl
      have l2 := hel 2 _ rfl
      have l3 := hel 3 _ rfl
      simp only [Addr.add_lit, Nat.add_zero] at l0 l1 l2 l3
      obtain ⟨⟨e1, e2⟩, el, et⟩ := e
      have hbd := rest_len HXX.out.2 HP4.out
      rw [HXX.out.1] at hbd
      obtain ⟨X1, X2, X3, N1, N2, N3, e3, g3, h1, h2, h3⟩ := rhead3 (X := X) (N := N) et HXX.out.1 (by omega) hid hsz
      have HC1 := Lib.hid h1
      have HC2 := Lib.hid h2
      have HC3 := Lib.hid h3
      have Hrs : RowKit.Hid (X3.length = N3 ∧ X3 ++ restE Es Us (i + 1) = P) := Lib.hid ⟨g3, by rw [e3]; exact hrs⟩
      clear hel hsz hid hrs hx hbd h1 h2 h3 e3 g3
      go_upto_region 8 with fail
      clear cb
      have ld0 : ∀ w', Kept Nil_ wo.drew w' → w'.cell? ⟨b0, 1, none⟩ = some (.slice (some ⟨eb, eo, none⟩) m k) := fun w' h => h.nil_cell (HX.out.dr.cell (i := 1) rfl)
      have ld1 : ∀ w', Kept Nil_ wo.drew w' → w'.cell? ⟨eb, eo + i * 4, none⟩ = some (.int .i64 e1) := fun w' h => h.nil_cell (show wo.drew.cell? _ = _ from l0)
      have ld2 : ∀ w', Kept Nil_ wo.drew w' → w'.cell? ⟨eb, eo + i * 4 + 1, none⟩ = some (.int .i64 e2) := fun w' h => h.nil_cell (show wo.drew.cell? _ = _ from l1)
      have ld3 : ∀ w', Kept Nil_ wo.drew w' → w'.cell? ⟨eb, eo + i * 4 + 2, none⟩ = some (.string el) := fun w' h => h.nil_cell (show wo.drew.cell? _ = _ from l2)
      have ld4 : ∀ w', Kept Nil_ wo.drew w' → w'.cell? ⟨eb, eo + i * 4 + 3, none⟩ = some (.int .i64 et) := fun w' h => h.nil_cell (show wo.drew.cell? _ = _ from l3)
      have hD7 : RowKit.Hid (Ext wo wo.drew) := Lib.hid (below_drewN wo.heap.size wo 1)
      refine wp_region_reg (Nil_) (by kernel_rfl) ?_
      refine opR_ 0 27 (v := ?_) ?_ ?_; rotate_left
      · intro w' hw'; go_simp; (try with_reducible rfl)
      simp only [st0_, st1_]
      refine opR_ 1 28 (v := ?_) ?_ ?_; rotate_left
      · intro w' hw'; go_simp; (try with_reducible rfl)
      simp only [st0_, st1_]
      refine opR_ 2 29 (v := ?_) ?_ ?_; rotate_left
      · intro w' hw'; go_simp; (try with_reducible rfl)
      simp only [st0_, st1_]
      refine opR_ 3 30 (v := ?_) ?_ ?_; rotate_left
      · intro w' hw'; go_simp; (try with_reducible rfl)
      simp only [st0_, st1_]
      refine opR_ 4 31 (v := ?_) ?_ ?_; rotate_left
      · intro w' hw'; go_simp; (try with_reducible rfl)
      simp only [st0_, st1_]
      refine opR_ 5 32 (v := ?_) ?_ ?_; rotate_left
      · intro w' hw'; go_simp; (try with_reducible rfl)
      simp only [st0_, st1_]
      refine opR_ 6 33 (v := ?_) ?_ ?_; rotate_left
      · intro w' hw'; go_simp; (try with_reducible rfl)
      simp only [st0_, st1_]
      refine opR_ 8 35 (v := ?_) ?_ ?_; rotate_left
      · intro w' hw'; go_simp; (try with_reducible rfl)
      simp only [st0_, st1_]
      refine opR_ 9 36 (v := ?_) ?_ ?_; rotate_left
      · intro w' hw'; go_simp; (try with_reducible rfl)
      simp only [st0_, st1_]
      refine opR_ 10 37 (v := ?_) ?_ ?_; rotate_left
      · intro w' hw'; go_simp; (try with_reducible rfl)
      simp only [st0_, st1_]
      refine opR_ 11 38 (v := ?_) ?_ ?_; rotate_left
      · intro w' hw'; go_simp; (try with_reducible rfl)
      simp only [st0_, st1_]
      refine opR_ 12 39 (v := ?_) ?_ ?_; rotate_left
      · intro w' hw'; go_simp; (try with_reducible rfl)
      simp only [st0_, st1_]
      refine opR_ 13 40 (v := ?_) ?_ ?_; rotate_left
      · intro w' hw'; go_simp; (try with_reducible rfl)
      simp only [st0_, st1_]
      refine opR_ 15 42 (v := ?_) ?_ ?_; rotate_left
      · intro w' hw'; go_simp; (try with_reducible rfl)
      simp only [st0_, st1_]
      refine opR_ 16 43 (v := ?_) ?_ ?_; rotate_left
      · intro w' hw'; go_simp; (try with_reducible rfl)
      simp only [st0_, st1_]
      refine opR_ 17 44 (v := ?_) ?_ ?_; rotate_left
      · intro w' hw'; go_simp; (try with_reducible rfl)
      simp only [st0_, st1_]
      refine opR_ 18 45 (v := ?_) ?_ ?_; rotate_left
      · intro w' hw'; go_simp; (try with_reducible rfl)
      simp only [st0_, st1_]
      refine opR_ 19 46 (v := ?_) ?_ ?_; rotate_left
      · intro w' hw'; go_simp; (try with_reducible rfl)
      simp only [st0_, st1_]
      refine opR_ 20 47 (v := ?_) ?_ ?_; rotate_left
      · intro w' hw'; go_simp; (try with_reducible rfl)
      simp only [st0_, st1_]
      apply wpR_call 7 (some 34)
      · rfl
      · rfl
      · kernel_rfl
      · rfl
      · intro w'; go_simp; first | done | exact ⟨rfl, rfl⟩ | with_reducible rfl
      intro w' hw'
      refine (HC1.out _ _ w' ((own_rds HO.out.own).bl (Ext.trans hD7.out hw'))).mono ?_
      rintro e w9 ⟨A9, c9, rfl, hr9, hb9⟩
      refine ⟨_, rfl, Kept.of_below hb9, ?_⟩
      have HE1 := Lib.hid (Ext.trans (Ext.trans hD7.out hw') hb9)
      have HQ1 := Lib.hid hr9
      clear hr9 hb9 hw' hD7 HC1
      simp only [Act.put, stA_, st0_, st1_]
      apply wpR_call 14 (some 41)
      · rfl
      · rfl
      · kernel_rfl
      · rfl
      · intro w'; go_simp; first | done | exact ⟨rfl, rfl⟩ | with_reducible rfl
      intro w' hw'
      refine (HC2.out A9 c9 w' (HQ1.out.bl hw')).mono ?_
      rintro e w10 ⟨A10, c10, rfl, hr10, hb10⟩
      refine ⟨_, rfl, Kept.of_below hb10, ?_⟩
      have HE2 := Lib.hid (Ext.trans (Ext.trans HE1.out hw') hb10)
      have HQ2 := Lib.hid hr10
      clear hr10 hb10 hw' HE1 HQ1 HC2
      simp only [Act.put, stA_, st0_, st1_]
      apply wpR_call 21 (some 48)
      · rfl
      · rfl
      · kernel_rfl
      · rfl
      · intro w'; go_simp; first | done | exact ⟨rfl, rfl⟩ | with_reducible rfl
      intro w' hw'
      refine (HC3.out A10 c10 w' (HQ2.out.bl hw')).mono ?_
      rintro e w11 ⟨A11, c11, rfl, ho11, hb11⟩
      refine ⟨_, rfl, Kept.of_below hb11, ?_⟩
      have hE9 := Ext.trans HE2.out hw'
      have HE3 := Lib.hid (Ext.trans hE9 hb11)
      have hbl9 := bel_bl HO.out.below hE9
      have hbl8 := bel_bl HO.out.below HE3.out
      have HO3 : RowKit.Hid (Ow w w.heap.size 5 1 (.slice A11 N3 c11) N3 (rowsV f8 X3) w11) := Lib.hid ⟨own_lo8 ho11 hbl9.size, hbl8, Nat.le_refl _, hbl8.size⟩
      clear ho11 hb11 hw' hE9 hbl9 hbl8 HE2 HQ2 HC3
      simp only [Act.put, stA_, st0_, st1_]
      refine opR_ 22 5 (v := ?_) ?_ ?_; rotate_left
      · intro w' hw'; go_simp; (try with_reducible rfl)
      simp only [st0_, st1_]
      refine wpR_done (by kernel_rfl) ?_ _
      intro w12 hw12
      have HX12 := Lib.hid (HX.out.bl (Ext.trans HE3.out hw12))
      have HO12 := Lib.hid (Ow.up HO3.out hw12)
      clear hw12 HE3 HO3 ld0 ld1 ld2 ld3 ld4 l0 l1 l2 l3 HX HO
      go_wp2
      go_roundw
      case rel => exact ⟨i + 1, N3, _, _, X3, by omega, by go_num, rfl, HX12, HO12, Hrs⟩
      case measure => simp [intOf] <;> omega
    · obtain rfl : m = i := by omega
      have hrs := HXX.out.2
      unfold restE at hrs
      rw [List.drop_eq_nil_of_le (by have := Hle.out; omega), List.flatMap_nil, List.nil_append, HUl.out, show n % 256 :: restV Es Us 0 = [n % 256] ++ restV Es Us 0 from rfl, ← List.append_assoc] at hrs
      obtain ⟨n8, gn8⟩ : ∃ z, n % 256 = z := ⟨_, rfl⟩
      have hw8 : IntKind.u8.wrap (n : Int) = (n8 : Int) := by rw [IntKind.wrap_u8]; omega
      rw [gn8] at hrs
      have hXl := HXX.out.1
      have hbd := rest_len hrs HP4.out
      rw [List.length_append, hXl, List.length_singleton] at hbd
      have c0 := HX.out.cell (i := 0) rfl
      have HXa := Lib.hid (HX.out.al (.cells #[.int .u8 (n8 : Int)] 5))
      have HOa := Lib.hid (Ow.up HO.out (below1 wo (.cells #[.int .u8 (n8 : Int)] 5)))
      obtain ⟨A7, c7, w7, hrun, ho7, hg7⟩ := app8 27 HOa.out (one8 wo n8) (by omega)
      have HX7 := Lib.hid (HXa.out.grown hg7 (own_ne HOa.out.own HXa.out (by decide)))
      have HO7 := Lib.hid ho7
      have HX8 : RowKit.Hid ((X ++ [n8]).length = N + 1 ∧ X ++ [n8] ++ restV Es Us 0 = P) := Lib.hid ⟨by rw [List.length_append, hXl]; rfl, hrs⟩
      clear ho7 hg7 gn8 hrs hXl
      go_upto_region 10 with (first
        | (at_builtin
           refine wl_run (some 55) rfl (by rfl) (exec_append (by rfl) (by rfl) (by rfl) hrun) ?_
           clear hrun))
      clear c0 cb hw8 HXa HOa HX HO HXX hbd
      obtain ⟨N1, gN1⟩ : ∃ z, N + 1 = z := ⟨_, rfl⟩
      rw [gN1] at HO7 HX8 ⊢
      clear gN1
      obtain ⟨X7, gX7⟩ : ∃ z, X ++ [n8] = z := ⟨_, rfl⟩
      rw [gX7] at HO7 HX8
      clear gX7
      have c0 := HX7.out.cell (i := 0) rfl
      go_wp2
      clear c0
      go_loopw [5, 7] (fun v si wr => ∃ (j N : Nat) (A2 : Option Addr) (c2 : Nat) (X : List Nat), j ≤ n ∧ si = .int .i64 j ∧ v = .slice A2 N c2 ∧ RowKit.Hid (Whole wr b0 25 [.slice A n c, .slice B m k]) ∧ RowKit.Hid (Ow w w.heap.size 5 1 (.slice A2 N c2) N (rowsV f8 X) wr) ∧ RowKit.Hid (X.length = N ∧ X ++ restV Es Us j = P)) (fun _ si _ => n - (intOf si).toNat)
      case atStart => exact ⟨0, N1, A7, c7, X7, by omega, rfl, rfl, HX7, HO7, HX8⟩
      case round =>
        clear HX7 HO7 HX8
        obtain ⟨j, N, A2, c2, X, hj_, rfl, rfl, HX, HO, HXX⟩ := hrel
        obtain ⟨wo, gwo⟩ : ∃ z, wr = z := ⟨_, rfl⟩
        rw [gwo] at HX HO ⊢
        clear gwo
        have cb := HX.out.cell (i := 0) rfl
        by_cases hjn : j < n
        · obtain ⟨v, hx⟩ : ∃ v, Vs[j]? = some v := ⟨_, List.getElem?_eq_getElem (by have := Hlv.out; omega)⟩
          have hvm := List.mem_of_getElem? hx
          have hsz := HF.out.size.2 v hvm
          have hrg := HR.out v hvm
          have hr8 := HF.out.ring v hvm
          have hov := HoV.out v hvm
          have hpl : ∀ d ∈ v.2.1.2.2.2, (d.1, d.2.1) ∈ Es.map (·.1) ∧ plE Es (d.1, d.2.1) < m ∧ (d.2.2 = 0 ∨ d.2.2 = 1) := fun d hd => by
            obtain ⟨e, he, q1, q2⟩ := HF.out.of_dart hvm hd
            have h2 := plE_lt HF.out hvm hd
            rw [Hle.out] at h2
            exact ⟨(hov.2.2 d hd).1, h2, q2⟩
          have hrs := HXX.out.2
          rw [restV_next (v := vS v) (by rw [← HUs.out, List.getElem?_map, hx]; rfl), ← List.append_assoc, ← List.append_assoc] at hrs
          obtain ⟨eb, eo, gA, -, -⟩ := HV.out.place vC_len (by decide) (by omega)
          subst gA
          have hel := (HV.out.up HO.out.below HO.out.below.size).elem vC_len hx
          have l0 := hel 0 _ rfl
          have l1 := hel 1 _ rfl
          have l2 := hel 2 _ rfl
          have l3 := hel 3 _ rfl
          have l4 := hel 4 _ rfl
          simp only [Addr.add_lit, Nat.add_zero] at l0 l1 l2 l3 l4
          obtain ⟨⟨i1, i2⟩, ⟨rA, rn, rc, rL⟩, lb, at_⟩ := v
          have HRr : RowKit.Hid (RdS w w.heap.size 3 rA rn rc (dartsV rL)) := Lib.hid hrg.2
          have Hpl : RowKit.Hid (∀ d ∈ rL, (d.1, d.2.1) ∈ Es.map (·.1) ∧ plE Es (d.1, d.2.1) < m ∧ (d.2.2 = 0 ∨ d.2.2 = 1)) := Lib.hid hpl
          have hrl : rL.length = rn := HRr.out.dlen
          have Hrl := Lib.hid hrl
          have hr9 : rn ≤ 80 := by rw [← hrl]; exact hr8
          have hid : mayI i1 i2 = true := hov.1.1
          replace hsz : lb.size ≤ 16 := hsz
          replace hrs : X ++ headB (i1, i2) lb at_ ++ [rL.length % 256] ++ ((rL.drop 0).map (dB Es) ++ restV Es Us (j + 1)) = P := hrs
          rw [hrl] at hrs
          have hbd0 := rest_len HXX.out.2 HP4.out
          rw [HXX.out.1] at hbd0
          obtain ⟨X1, X2, X3, N1, N2, N3, e3, g3, h1, h2, h3⟩ := rhead3 (X := X) (N := N) at_ HXX.out.1 (by omega) hid hsz
          have HC1 := Lib.hid h1
          have HC2 := Lib.hid h2
          have HC3 := Lib.hid h3
          obtain ⟨r8, gr8⟩ : ∃ z, rn % 256 = z := ⟨_, rfl⟩
          have hw8 : IntKind.u8.wrap (rn : Int) = (r8 : Int) := by rw [IntKind.wrap_u8]; omega
          rw [← e3, gr8] at hrs
          have hbd := rest_len hrs HP4.out
          rw [List.length_append, g3, List.length_singleton] at hbd
          have hb2 : N3 + 1 ≤ 4000 := by omega
          have Hrs := Lib.hid hrs
          have Hg3 := Lib.hid g3
          clear hel hsz hrs hx hvm hrg hr8 hpl hrl gr8 hbd hbd0 hov hid h1 h2 h3 e3 g3
          go_upto_region 14 with fail
          clear l0 l1 l2 l3 l4 cb
          have HOa := Lib.hid (Ow.up HO.out (below1 wo (.cells #[.int .i64 i1, .int .i64 i2, .slice rA rn rc, .string lb, .int .i64 at_] 47)))
          have HXa := Lib.hid (HX.out.al (.cells #[.int .i64 i1, .int .i64 i2, .slice rA rn rc, .string lb, .int .i64 at_] 47))
          have HVa := Lib.hid (Whole.new2 (w := wo) (t := 47) (cs := [.int .i64 i1, .int .i64 i2, .slice rA rn rc, .string lb, .int .i64 at_]) rfl)
          obtain ⟨wa, gwa⟩ : ∃ z, wo.alloc (.cells #[.int .i64 i1, .int .i64 i2, .slice rA rn rc, .string lb, .int .i64 at_] 47) = z := ⟨_, rfl⟩
          obtain ⟨b10, gb10⟩ : ∃ z, wo.heap.size = z := ⟨_, rfl⟩
          rw [gwa] at HOa HXa HVa ⊢
          rw [gb10] at HVa ⊢
          clear gwa gb10 HO HX
          have ld0 : ∀ w', Kept Nil_ wa.drew w' → w'.cell? ⟨b10, 0, none⟩ = some (.int .i64 i1) := fun w' h => h.nil_cell (HVa.out.dr.cell (i := 0) rfl)
          have ld1 : ∀ w', Kept Nil_ wa.drew w' → w'.cell? ⟨b10, 1, none⟩ = some (.int .i64 i2) := fun w' h => h.nil_cell (HVa.out.dr.cell (i := 1) rfl)
          have ld2 : ∀ w', Kept Nil_ wa.drew w' → w'.cell? ⟨b10, 3, none⟩ = some (.string lb) := fun w' h => h.nil_cell (HVa.out.dr.cell (i := 3) rfl)
          have ld3 : ∀ w', Kept Nil_ wa.drew w' → w'.cell? ⟨b10, 4, none⟩ = some (.int .i64 at_) := fun w' h => h.nil_cell (HVa.out.dr.cell (i := 4) rfl)
          have hD7 : RowKit.Hid (Ext wa wa.drew) := Lib.hid (below_drewN wa.heap.size wa 1)
          refine wp_region_reg (Nil_) (by kernel_rfl) ?_
          refine opR_ 0 68 (v := ?_) ?_ ?_; rotate_left
          · intro w' hw'; go_simp; (try with_reducible rfl)
          simp only [st0_, st1_]
          refine opR_ 1 69 (v := ?_) ?_ ?_; rotate_left
          · intro w' hw'; go_simp; (try with_reducible rfl)
          simp only [st0_, st1_]
          refine opR_ 2 70 (v := ?_) ?_ ?_; rotate_left
          · intro w' hw'; go_simp; (try with_reducible rfl)
          simp only [st0_, st1_]
          refine opR_ 4 72 (v := ?_) ?_ ?_; rotate_left
          · intro w' hw'; go_simp; (try with_reducible rfl)
          simp only [st0_, st1_]
          refine opR_ 5 73 (v := ?_) ?_ ?_; rotate_left
          · intro w' hw'; go_simp; (try with_reducible rfl)
          simp only [st0_, st1_]
          refine opR_ 7 75 (v := ?_) ?_ ?_; rotate_left
          · intro w' hw'; go_simp; (try with_reducible rfl)
          simp only [st0_, st1_]
          refine opR_ 8 76 (v := ?_) ?_ ?_; rotate_left
          · intro w' hw'; go_simp; (try with_reducible rfl)
          simp only [st0_, st1_]
          apply wpR_call 3 (some 71)
          · rfl
          · rfl
          · kernel_rfl
          · rfl
          · intro w'; go_simp; first | done | exact ⟨rfl, rfl⟩ | with_reducible rfl
          intro w' hw'
          refine (HC1.out _ _ w' ((own_rds HOa.out.own).bl (Ext.trans hD7.out hw'))).mono ?_
          rintro e w9 ⟨A9, c9, rfl, hr9, hb9⟩
          refine ⟨_, rfl, Kept.of_below hb9, ?_⟩
          have HE1 := Lib.hid (Ext.trans (Ext.trans hD7.out hw') hb9)
          have HQ1 := Lib.hid hr9
          clear hr9 hb9 hw' hD7 HC1
          simp only [Act.put, stA_, st0_, st1_]
          apply wpR_call 6 (some 74)
          · rfl
          · rfl
          · kernel_rfl
          · rfl
          · intro w'; go_simp; first | done | exact ⟨rfl, rfl⟩ | with_reducible rfl
          intro w' hw'
          refine (HC2.out A9 c9 w' (HQ1.out.bl hw')).mono ?_
          rintro e w10 ⟨A10, c10, rfl, hr10, hb10⟩
          refine ⟨_, rfl, Kept.of_below hb10, ?_⟩
          have HE2 := Lib.hid (Ext.trans (Ext.trans HE1.out hw') hb10)
          have HQ2 := Lib.hid hr10
          clear hr10 hb10 hw' HE1 HQ1 HC2
          simp only [Act.put, stA_, st0_, st1_]
          apply wpR_call 9 (some 77)
          · rfl
          · rfl
          · kernel_rfl
          · rfl
          · intro w'; go_simp; first | done | exact ⟨rfl, rfl⟩ | with_reducible rfl
          intro w' hw'
          refine (HC3.out A10 c10 w' (HQ2.out.bl hw')).mono ?_
          rintro e w11 ⟨A11, c11, rfl, ho11, hb11⟩
          refine ⟨_, rfl, Kept.of_below hb11, ?_⟩
          have hE9 := Ext.trans HE2.out hw'
          have HE3 := Lib.hid (Ext.trans hE9 hb11)
          have hbl9 := bel_bl HOa.out.below hE9
          have hbl8 := bel_bl HOa.out.below HE3.out
          have HO3 : RowKit.Hid (Ow w w.heap.size 5 1 (.slice A11 N3 c11) N3 (rowsV f8 X3) w11) := Lib.hid ⟨own_lo8 ho11 hbl9.size, hbl8, Nat.le_refl _, hbl8.size⟩
          clear ho11 hb11 hw' hE9 hbl9 hbl8 HE2 HQ2 HC3
          simp only [Act.put, stA_, st0_, st1_]
          refine opR_ 10 5 (v := ?_) ?_ ?_; rotate_left
          · intro w' hw'; go_simp; (try with_reducible rfl)
          simp only [st0_, st1_]
          refine wpR_done (by kernel_rfl) ?_ _
          intro w12 hw12
          have HX7 := Lib.hid (HXa.out.bl (Ext.trans HE3.out hw12))
          have HV7 := Lib.hid (HVa.out.bl (Ext.trans HE3.out hw12))
          have HO7 := Lib.hid (Ow.up HO3.out hw12)
          obtain ⟨w7, gw7⟩ : ∃ z, w12 = z := ⟨_, rfl⟩
          rw [gw7] at HX7 HV7 HO7 ⊢
          clear hw12 HE3 HO3 ld0 ld1 ld2 ld3 HXa HVa HOa gw7
          have d2 := HV7.out.cell (i := 2) rfl
          have HXb := Lib.hid (HX7.out.al (.cells #[.int .u8 (r8 : Int)] 5))
          have HVb := Lib.hid (HV7.out.al (.cells #[.int .u8 (r8 : Int)] 5))
          have HOb := Lib.hid (Ow.up HO7.out (below1 w7 (.cells #[.int .u8 (r8 : Int)] 5)))
          obtain ⟨A8, c8, w8, hrun, ho8, hg8⟩ := app8 27 HOb.out (one8 w7 r8) (by omega)
          have HX8 := Lib.hid (HXb.out.grown hg8 (own_ne HOb.out.own HXb.out (by decide)))
          have HV8 := Lib.hid (HVb.out.grown hg8 (own_ne HOb.out.own HVb.out (by decide)))
          have HO8 := Lib.hid ho8
          have HX9 : RowKit.Hid ((X3 ++ [r8]).length = N3 + 1 ∧ X3 ++ [r8] ++ ((rL.drop 0).map (dB Es) ++ restV Es Us (j + 1)) = P) := Lib.hid ⟨by rw [List.length_append, Hg3.out]; rfl, Hrs.out⟩
          clear ho8 hg8
          go_upto_region 16 with (first
            | (at_builtin
               refine wl_run (some 84) rfl (by rfl) (exec_append (by rfl) (by rfl) (by rfl) hrun) ?_
               clear hrun))
          clear d2 hw8 HXb HVb HOb HX7 HV7 HO7 HXX hb2 Hrs Hg3
          obtain ⟨N8, gN8⟩ : ∃ z, N3 + 1 = z := ⟨_, rfl⟩
          rw [gN8] at HO8 HX9 ⊢
          clear gN8
          obtain ⟨X8, gX8⟩ : ∃ z, X3 ++ [r8] = z := ⟨_, rfl⟩
          rw [gX8] at HO8 HX9
          clear gX8
          obtain ⟨R9, gR9⟩ : ∃ z, restV Es Us (j + 1) = z := ⟨_, rfl⟩
          rw [gR9] at HX9
          have HR9 := Lib.hid gR9
          clear gR9
          have d2 := HV8.out.cell (i := 2) rfl
          go_wp2
          clear d2
          go_loopw [5, 9] (fun v si wr => ∃ (t N : Nat) (A2 : Option Addr) (c2 : Nat) (X : List Nat), t ≤ rn ∧ si = .int .i64 t ∧ v = .slice A2 N c2 ∧ RowKit.Hid (Whole wr b0 25 [.slice (some ⟨eb, eo, none⟩) n c, .slice B m k]) ∧ RowKit.Hid (Whole wr b10 47 [.int .i64 i1, .int .i64 i2, .slice rA rn rc, .string lb, .int .i64 at_]) ∧ RowKit.Hid (Ow w w.heap.size 5 1 (.slice A2 N c2) N (rowsV f8 X) wr) ∧ RowKit.Hid (X.length = N ∧ X ++ ((rL.drop t).map (dB Es) ++ R9) = P)) (fun _ si _ => rn - (intOf si).toNat)
          case atStart => exact ⟨0, N8, A8, c8, X8, by omega, rfl, rfl, HX8, HV8, HO8, HX9⟩
          case round =>
            clear HX8 HV8 HO8 HX9
            obtain ⟨t, N, A2, c2, X, ht_, rfl, rfl, HX, HVv, HO, HXX⟩ := hrel
            obtain ⟨wi, gwi⟩ : ∃ z, wr = z := ⟨_, rfl⟩
            rw [gwi] at HX HVv HO ⊢
            clear gwi
            have d2 := HVv.out.cell (i := 2) rfl
            by_cases htn : t < rn
            · obtain ⟨d, hx⟩ : ∃ d, rL[t]? = some d := ⟨_, List.getElem?_eq_getElem (by have := Hrl.out; omega)⟩
              obtain ⟨hp1, hp2, hp3⟩ := Hpl.out d (List.mem_of_getElem? hx)
              have hrs := HXX.out.2
              have hdr : rL.drop t = d :: rL.drop (t + 1) := by
                rw [List.drop_eq_getElem_cons (List.getElem?_eq_some_iff.1 hx).1, (List.getElem?_eq_some_iff.1 hx).2]
              rw [hdr, List.map_cons, List.cons_append, show ∀ (a : Nat) (l : List Nat), a :: l = [a] ++ l from fun _ _ => rfl, ← List.append_assoc] at hrs
              obtain ⟨rb, ro, gr, hrb, hcd⟩ := (HRr.out.up HO.out.below HO.out.below.size).darts (by omega)
              subst gr
              have hjl : t < rL.length := by have := Hrl.out; omega
              obtain ⟨l0, l1, l2⟩ := hcd t hjl
              have hgd : rL.getD t (0, 0, 0) = d := by rw [List.getD_eq_getElem?_getD, hx]; rfl
              rw [hgd] at l0 l1 l2
              obtain ⟨d1, d2_, d3⟩ := d
              simp only at hp1 hp2 hp3 l0 l1 l2
              have hpp := rplF_pl hp1
              obtain ⟨p, gp⟩ : ∃ z, plE Es (d1, d2_) = z := ⟨_, rfl⟩
              have hdb : dB Es (d1, d2_, d3) = (p + 128 * d3.toNat) % 256 := by unfold dB; rw [gp]
              rw [gp] at hp2 hpp
              have HPl : RowKit.Hid (∀ W, RdS W W.heap.size 4 B m k (rowsV eC Es) → Calls Tryz.prog 19 #[.agg #[.slice (some ⟨eb, eo, none⟩) n c, .slice B m k], .agg #[.int .i64 d1, .int .i64 d2_]] W fun e w' => e = .returned (.int .i64 (p : Int)) ∧ Below W.heap.size W w') := Lib.hid (fun W h => by
                have h9 := rplace8_any (some ⟨eb, eo, none⟩) n c B m k Es d1 d2_ W h (by omega)
                rw [hpp] at h9
                exact h9)
              obtain ⟨db, gdb⟩ : ∃ z, dB Es (d1, d2_, d3) = z := ⟨_, rfl⟩
              rw [gdb] at hrs hdb
              obtain ⟨x1, hw1⟩ : ∃ z, IntKind.i64.wrap (128 * d3) = z := ⟨_, rfl⟩
              have hx1 : x1 = 128 * d3 := by rw [← hw1]; exact IntWalk.i64_in _ (by omega)
              obtain ⟨x2, hw2⟩ : ∃ z, IntKind.i64.wrap ((p : Int) + x1) = z := ⟨_, rfl⟩
              have hx2 : x2 = (p : Int) + 128 * d3 := by rw [← hw2, hx1]; exact IntWalk.i64_in _ (by omega)
              have hw3 : IntKind.u8.wrap x2 = (db : Int) := by rw [hx2, hdb, IntKind.wrap_u8]; omega
              have hXl := HXX.out.1
              have hbd := rest_len hrs HP4.out
              rw [List.length_append, hXl, List.length_singleton] at hbd
              have hb1 : N + 1 ≤ 4000 := by omega
              have Hrs := Lib.hid hrs
              clear hx hp1 hp3 hrs hdr hcd hjl hgd gp hdb gdb hx1 hx2 hbd hpp
              go_upto_region 19 with fail
              clear d2
              have Hs1 : RowKit.Hid (¬ (some b10 = (Value.slice A2 N c2).ownBlock ∨ wi.heap.size ≤ b10)) := Lib.hid (fun e => by rcases e with e | e; exact own_ne HO.out.own HVv.out (by decide) e; exact absurd HVv.out.lt (by omega))
              have Hs2 : RowKit.Hid (¬ (some b0 = (Value.slice A2 N c2).ownBlock ∨ wi.heap.size ≤ b0)) := Lib.hid (fun e => by rcases e with e | e; exact own_ne HO.out.own HX.out (by decide) e; exact absurd HX.out.lt (by omega))
              have Hs3 : RowKit.Hid (¬ (some rb = (Value.slice A2 N c2).ownBlock ∨ wi.heap.size ≤ rb)) := Lib.hid (fun e => by
                have hb9 : rb < w.heap.size := HRr.out.low ⟨rb, ro, none⟩ rfl (by omega)
                have hb8 := HO.out.below.size
                rcases e with e | e
                · have := (HO.out.own.lt rb e.symm).1; omega
                · omega)
              have ld0 : ∀ w', Kept (fun i => some i = (Value.slice A2 N c2).ownBlock ∨ wi.heap.size ≤ i) wi.drew w' → w'.cell? ⟨b10, 2, none⟩ = some (.slice (some ⟨rb, ro, none⟩) rn rc) := fun w' h => h.cell (HVv.out.dr.cell (i := 2) rfl) Hs1.out
              have ld1 : ∀ w', Kept (fun i => some i = (Value.slice A2 N c2).ownBlock ∨ wi.heap.size ≤ i) wi.drew w' → w'.cell? ⟨b0, 0, none⟩ = some (.slice (some ⟨eb, eo, none⟩) n c) := fun w' h => h.cell (HX.out.dr.cell (i := 0) rfl) Hs2.out
              have ld2 : ∀ w', Kept (fun i => some i = (Value.slice A2 N c2).ownBlock ∨ wi.heap.size ≤ i) wi.drew w' → w'.cell? ⟨b0, 1, none⟩ = some (.slice B m k) := fun w' h => h.cell (HX.out.dr.cell (i := 1) rfl) Hs2.out
              have ld3 : ∀ w', Kept (fun i => some i = (Value.slice A2 N c2).ownBlock ∨ wi.heap.size ≤ i) wi.drew w' → w'.cell? ⟨rb, ro + t * 3, none⟩ = some (.int .i64 d1) := fun w' h => h.cell (show wi.drew.cell? _ = _ from l0) Hs3.out
              have ld4 : ∀ w', Kept (fun i => some i = (Value.slice A2 N c2).ownBlock ∨ wi.heap.size ≤ i) wi.drew w' → w'.cell? ⟨rb, ro + t * 3 + 1, none⟩ = some (.int .i64 d2_) := fun w' h => h.cell (show wi.drew.cell? _ = _ from l1) Hs3.out
              have ld5 : ∀ w', Kept (fun i => some i = (Value.slice A2 N c2).ownBlock ∨ wi.heap.size ≤ i) wi.drew w' → w'.cell? ⟨rb, ro + t * 3 + 2, none⟩ = some (.int .i64 d3) := fun w' h => h.cell (show wi.drew.cell? _ = _ from l2) Hs3.out
              have HDr : RowKit.Hid (Ext wi wi.drew) := Lib.hid (below_drewN wi.heap.size wi 1)
              clear l0 l1 l2 hrb
              refine wp_region_reg (fun i => some i = (Value.slice A2 N c2).ownBlock ∨ wi.heap.size ≤ i) (by kernel_rfl) ?_
              refine opR_ 0 92 (v := ?_) ?_ ?_; rotate_left
              · intro w' hw'; go_simp; (try with_reducible rfl)
              simp only [st0_, st1_]
              refine opR_ 1 93 (v := ?_) ?_ ?_; rotate_left
              · intro w' hw'; go_simp; (try with_reducible rfl)
              simp only [st0_, st1_]
              refine opR_ 2 94 (v := ?_) ?_ ?_; rotate_left
              · intro w' hw'; go_simp; (try with_reducible rfl)
              simp only [st0_, st1_]
              refine opR_ 3 95 (v := ?_) ?_ ?_; rotate_left
              · intro w' hw'; go_simp; (try with_reducible rfl)
              simp only [st0_, st1_]
              refine opR_ 4 96 (v := ?_) ?_ ?_; rotate_left
              · intro w' hw'; go_simp; (try with_reducible rfl)
              simp only [st0_, st1_]
              refine opR_ 5 97 (v := ?_) ?_ ?_; rotate_left
              · intro w' hw'; go_simp; (try with_reducible rfl)
              simp only [st0_, st1_]
              refine opR_ 6 98 (v := ?_) ?_ ?_; rotate_left
              · intro w' hw'; go_simp; (try with_reducible rfl)
              simp only [st0_, st1_]
              refine opR_ 7 99 (v := ?_) ?_ ?_; rotate_left
              · intro w' hw'; go_simp; (try with_reducible rfl)
              simp only [st0_, st1_]
              refine opR_ 9 101 (v := ?_) ?_ ?_; rotate_left
              · intro w' hw'; go_simp; (try with_reducible rfl)
              simp only [st0_, st1_]
              refine opR_ 10 102 (v := ?_) ?_ ?_; rotate_left
              · intro w' hw'; go_simp; (try with_reducible rfl)
              simp only [st0_, st1_]
              refine opR_ 11 103 (v := ?_) ?_ ?_; rotate_left
              · intro w' hw'; go_simp; (try with_reducible rfl)
              simp only [st0_, st1_]
              refine opR_ 12 104 (v := ?_) ?_ ?_; rotate_left
              · intro w' hw'; go_simp; (try with_reducible rfl)
              simp only [st0_, st1_]
              refine opR_ 13 105 (v := ?_) ?_ ?_; rotate_left
              · intro w' hw'; go_simp; (try with_reducible rfl)
              simp only [st0_, st1_]
              refine opR_ 14 106 (v := ?_) ?_ ?_; rotate_left
              · intro w' hw'; go_simp; (try with_reducible rfl)
              simp only [st0_, st1_]
              refine opR_ 15 107 (v := ?_) ?_ ?_; rotate_left
              · intro w' hw'; go_simp; (try with_reducible rfl)
              simp only [st0_, st1_]
              apply wpR_call 8 (some 100)
              · rfl
              · rfl
              · kernel_rfl
              · rfl
              · intro w'; go_simp; first | done | exact ⟨rfl, rfl⟩ | with_reducible rfl
              intro w' hw'
              refine (HPl.out w' ((HE.out.up HO.out.below HO.out.below.size).bl (Ext.trans HDr.out hw'))).mono ?_
              rintro e w9 ⟨rfl, hb9⟩
              refine ⟨_, rfl, Kept.of_below hb9, ?_⟩
              have HE9 := Lib.hid (Ext.trans (Ext.trans HDr.out hw') hb9)
              clear hb9 hw' 
              simp only [Act.put, stA_, st0_, st1_]
              refine opR_ 16 108 (v := ?_) ?_ ?_; rotate_left
              · intro w' hw'; go_simp; (try with_reducible rfl)
              simp only [st0_, st1_]
              refine opR_ 17 109 (v := ?_) ?_ ?_; rotate_left
              · intro w' hw'; go_simp; (try with_reducible rfl)
              simp only [st0_, st1_]
              apply wpR_run 18 (some 110)
              · rfl
              · rfl
              · kernel_rfl
              · rfl
              intro w' hw'
              refine ⟨.slice (some ⟨w'.heap.size, 0, none⟩) 1 1, w'.alloc (.cells #[.int .u8 (db : Int)] 5), by (go_simp; first | done | exact rfl | exact ⟨rfl, rfl⟩), Kept.of_below (below1 _ _), ?_⟩
              have hE0 := Ext.trans HE9.out hw'
              have HXb := Lib.hid ((HX.out.bl hE0).al (.cells #[.int .u8 (db : Int)] 5))
              have HVb := Lib.hid ((HVv.out.bl hE0).al (.cells #[.int .u8 (db : Int)] 5))
              have HOb := Lib.hid (Ow.up (Ow.up HO.out hE0) (below1 w' (.cells #[.int .u8 (db : Int)] 5)))
              have HSb := Lib.hid (one8 w' db)
              obtain ⟨wb, gwb⟩ : ∃ z, w'.alloc (.cells #[.int .u8 (db : Int)] 5) = z := ⟨_, rfl⟩
              obtain ⟨ab, gab⟩ : ∃ z, w'.heap.size = z := ⟨_, rfl⟩
              rw [gwb] at HXb HVb HOb HSb ⊢
              rw [gab] at HSb ⊢
              clear gwb gab hE0 hw' HX HVv HO ld0 ld1 ld2 ld3 ld4 ld5
              simp only [Act.put, stA_, st0_, st1_]
              apply wpR_run 19 (some 111)
              · rfl
              · rfl
              · kernel_rfl
              · rfl
              intro w' hw'
              obtain ⟨A7, c7, w7, hrun, ho7, hg7⟩ := app8 27 (Ow.up HOb.out hw') (HSb.out.bl hw') (by omega)
              refine ⟨_, w7, exec_append (by rfl) (by rfl) (by rfl) hrun, kept_own hg7 (fun i e => .inl e), ?_⟩
              have HX7 := Lib.hid ((HXb.out.bl hw').grown hg7 (own_ne (own_up HOb.out.own hw') (HXb.out.bl hw') (by decide)))
              have HV7 := Lib.hid ((HVb.out.bl hw').grown hg7 (own_ne (own_up HOb.out.own hw') (HVb.out.bl hw') (by decide)))
              have HO7 := Lib.hid ho7
              clear hrun ho7 hg7 hw' HXb HVb HOb HSb
              simp only [Act.put, stA_, st0_, st1_]
              refine opR_ 20 5 (v := ?_) ?_ ?_; rotate_left
              · intro w' hw'; go_simp; (try with_reducible rfl)
              simp only [st0_, st1_]
              refine wpR_done (by kernel_rfl) ?_ _
              intro w9 hw9
              have HX9 := Lib.hid (HX7.out.bl hw9)
              have HV9 := Lib.hid (HV7.out.bl hw9)
              have HO9 := Lib.hid (Ow.up HO7.out hw9)
              clear hw9 HX7 HV7 HO7
              go_wp2
              go_roundw
              case rel => exact ⟨t + 1, N + 1, A7, c7, X ++ [db], by omega, by go_num, rfl, HX9, HV9, HO9, Lib.hid ⟨by rw [List.length_append, hXl]; rfl, Hrs.out⟩⟩
              case measure => simp [intOf] <;> omega
            · obtain rfl : rn = t := by omega
              have hrs := HXX.out.2
              rw [List.drop_eq_nil_of_le (by have := Hrl.out; omega), List.map_nil, List.nil_append, ← HR9.out] at hrs
              go_wp2
              go_roundw
              case rel => exact ⟨j + 1, N, A2, c2, X, by omega, by go_num, rfl, HX, HO, Lib.hid ⟨HXX.out.1, hrs⟩⟩
              case measure => simp [intOf] <;> omega
        · obtain rfl : n = j := by omega
          have hrs := HXX.out.2
          unfold restV at hrs
          rw [List.drop_eq_nil_of_le (by have := HUl.out; omega), List.flatMap_nil, List.append_nil] at hrs
          obtain rfl := hrs
          obtain rfl : X.length = N := HXX.out.1
          go_wp2
          exact bodyPost_ret (v := .tuple #[.slice A2 X.length c2, .int .i64 0]) (by simp [results, Tryz.results8, go_sem]) rfl ⟨A2, c2, rfl, HO.out.own, HO.out.below⟩
end Go.Proofs.YtmkflebkifbpfaaGreat
/- PackPuts' walk. -/
namespace Go.Proofs.YtmkflebkifbpfaaGreat
open Go.RowKit
theorem rput8_any (A : Option Addr) (n c : Nat) (Vs : List VC) (B : Option Addr) (m k : Nat) (Es : List EC) (w : World) (h : DgIn w A n c Vs B m k Es) (hg : GoodD Vs Es) (hr : ∀ x ∈ Vs, x.2.1.2.1 ≤ 1000000) :
    Calls Tryz.prog 8 #[.agg #[.slice A n c, .slice B m k]] w fun e w' => ∃ A' c', e = .returned (.tuple #[.slice A' (pb Vs Es).length c', .int .i64 (mayF7 Vs Es)]) ∧ w'.ownsRow w.heap.size 5 1 (.slice A' (pb Vs Es).length c') (pb Vs Es).length (rowsV f8 (pb Vs Es)) ∧ Below w.heap.size w w' := by
  by_cases hm : mayF7 Vs Es = 0
  · have h9 := rput_yes A n c Vs B m k Es w h hg hr hm
    unfold pb
    rw [if_pos hm, hm]
    exact h9
  · refine (rput_not A n c Vs B m k Es w h hg hr hm).mono ?_
    rintro e w' ⟨rfl, hb⟩
    unfold pb
    rw [if_neg hm]
    exact ⟨none, 0, rfl, World.ownsRow_nil w' w.heap.size 5 1, hb⟩
end Go.Proofs.YtmkflebkifbpfaaGreat
