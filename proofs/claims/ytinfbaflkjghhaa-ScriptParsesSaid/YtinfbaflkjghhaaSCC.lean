/- Several texts in one. -/
import Derived.Test.YtinfbaflkjghhaaSCA
import Derived.Test.YtinfbaflkjghhaaSCB
import Derived.Laws.RangeString
import Derived.Laws.RangeAny
import Derived.LoopTactic
import Derived.Deep.WholeRow
import Derived.Great.Walk
/- ident.Take of four bytes. -/
set_option linter.unusedSimpArgs false
set_option linter.unusedVariables false
namespace Go.Proofs.Ytinfbaflkjghhaa
open Go.RowKit
theorem kept_setRow {S : Nat → Prop} (w : World) (g : Nat) (hS : S g) (cs : Array Value) : Kept S w (w.setRow g cs) := ⟨rfl, rfl, rfl, by simp [World.setRow], fun i _ hn => setRow_other w g i cs (fun e => hn (by rw [e]; exact hS))⟩
set_option maxRecDepth 100000 in
set_option maxHeartbeats 4000000 in
theorem idtake_any (A : Option Addr) (c : Nat) (b0 b1 b2 b3 : Nat) (R : List Nat) (w : World) (h : RdS w w.heap.size 1 A (b0 :: b1 :: b2 :: b3 :: R).length c (rowsV f8 (b0 :: b1 :: b2 :: b3 :: R))) (h0 : b0 < 256) (h1 : b1 < 256) (h2 : b2 < 256) (h3 : b3 < 256) (hn : (b0 :: b1 :: b2 :: b3 :: R).length ≤ 100000) :
    Calls Try.prog 104 #[.slice A (b0 :: b1 :: b2 :: b3 :: R).length c] w fun e w' => ∃ A' n' c' ok, e = .returned (.tuple #[.agg #[.int .i64 (tk4 (b0 :: b1 :: b2 :: b3 :: R)).1, .int .i64 (tk4 (b0 :: b1 :: b2 :: b3 :: R)).2], .slice A' n' c', .bool ok]) ∧ Below w.heap.size w w' := by
  have HF := Lib.hid (fun W h => first_any A (b0 :: b1 :: b2 :: b3 :: R).length c b0 b1 b2 b3 R W h h0 h1 h2 h3)
  have hlow := h.low_ (k := 4) (by simp)
  have hdl : ((b0 :: b1 :: b2 :: b3 :: R).drop 4).length = (b0 :: b1 :: b2 :: b3 :: R).length - 4 := List.length_drop
  rw [show (rowsV f8 (b0 :: b1 :: b2 :: b3 :: R)).drop (4 * 1) = rowsV f8 R from rfl, show (b0 :: b1 :: b2 :: b3 :: R).length - 4 = R.length from by simp] at hlow
  obtain ⟨A1, hA1⟩ : ∃ A1, (if c = 4 then A else A.map (·.add (4 * 1))) = A1 := ⟨_, rfl⟩
  rw [hA1] at hlow
  have hl : (b0 :: b1 :: b2 :: b3 :: R).length = R.length + 4 := by simp
  have HC1 := Lib.hid (fun W (hW : Ext w W) => clone8 A1 (c - 4) R W (hlow.up hW hW.size) (by omega))
  have HC2 := Lib.hid (fun W (hW : Ext w W) => clone8 A c (b0 :: b1 :: b2 :: b3 :: R) W (h.up hW hW.size) hn)
  have ht : tk4 (b0 :: b1 :: b2 :: b3 :: R) = if mayI (b0 : Int) (65536 * (b1 : Int) + 256 * (b2 : Int) + (b3 : Int)) = true then ((b0 : Int), 65536 * (b1 : Int) + 256 * (b2 : Int) + (b3 : Int)) else (0, 0) := rfl
  obtain ⟨s, gs⟩ : ∃ z : Int, (b0 : Int) = z := ⟨_, rfl⟩
  obtain ⟨k, gk⟩ : ∃ z : Int, 65536 * (b1 : Int) + 256 * (b2 : Int) + (b3 : Int) = z := ⟨_, rfl⟩
  rw [gs, gk] at HF ht
  have HR := Lib.hid h
  obtain ⟨M, gM⟩ : ∃ z, b0 :: b1 :: b2 :: b3 :: R = z := ⟨_, rfl⟩
  rw [gM] at HF HC2 ht HR hl ⊢
  obtain ⟨m, gm⟩ : ∃ z, M.length = z := ⟨_, rfl⟩
  rw [gm] at HF HC2 HR hl ⊢
  have Gm := Lib.hid gm
  obtain ⟨r, gr⟩ : ∃ z, R.length = z := ⟨_, rfl⟩
  rw [gr] at HC1 hl
  have Gr := Lib.hid gr
  have HAr := Lib.hid hA1
  have Hm4 : RowKit.Hid (4 ≤ m ∧ m - 4 = r) := Lib.hid (by omega)
  obtain ⟨my, gmy⟩ : ∃ z, mayI s k = z := ⟨_, rfl⟩
  have HMy : RowKit.Hid (∀ W, Calls Try.prog 78 #[.agg #[.int .i64 s, .int .i64 k]] W fun e w' => e = .returned (.bool my) ∧ Below W.heap.size W w') := Lib.hid (fun W => gmy ▸ may_any s k W)
  rw [gmy] at ht
  obtain ⟨⟨t1, t2⟩, gt⟩ : ∃ z, tk4 M = z := ⟨_, rfl⟩
  rw [gt] at ht ⊢
  have Ht := Lib.hid ht
  have HX0 : RowKit.Hid (Whole (w.alloc (.cells #[.int .i64 0, .int .i64 0] 47)) w.heap.size 47 [.int .i64 0, .int .i64 0]) := Lib.hid (Whole.new_ _ _ [_, _])
  have HE0 : RowKit.Hid (Ext w (w.alloc (.cells #[.int .i64 0, .int .i64 0] 47))) := Lib.hid (below1 w _)
  have HR0 := Lib.hid (HR.out.al (.cells #[.int .i64 0, .int .i64 0] 47))
  clear h hlow hdl gs gk gM gm gr hA1 hl hn gmy gt ht
  go_enter Try.func104, Try.ntmps104
  go_upto_region 1 with fail
  obtain ⟨w0, gw0⟩ : ∃ z, w.alloc (.cells #[.int .i64 0, .int .i64 0] 47) = z := ⟨_, rfl⟩
  obtain ⟨b, gb⟩ : ∃ z, w.heap.size = z := ⟨_, rfl⟩
  rw [gw0] at HX0 HE0 HR0 ⊢
  rw [gb] at HX0 ⊢
  have Gb := Lib.hid gb
  clear gw0 gb
  go_upto_region 2 with (first
    | (go_at_call 108
       refine (HF.out _ HR0.out).mono ?_
       rintro e w1 ⟨rfl, hb1⟩
       have HX1 := Lib.hid ((HX0.out.bl hb1).al (.cells #[.int .i64 s, .int .i64 k] 47))
       have HE1 : RowKit.Hid (Ext w (w1.alloc (.cells #[.int .i64 s, .int .i64 k] 47))) := Lib.hid (Ext.trans (Ext.trans HE0.out hb1) (below1 w1 _))
       have HY1 : RowKit.Hid (Whole (w1.alloc (.cells #[.int .i64 s, .int .i64 k] 47)) w1.heap.size 47 [.int .i64 s, .int .i64 k]) := Lib.hid (Whole.new_ _ _ [_, _])
       have HN1 : RowKit.Hid (w1.heap.size ≠ b) := Lib.hid (by have := (HX0.out.bl hb1).lt; omega)
       clear hb1))
  obtain ⟨w2, gw2⟩ : ∃ z, w1.alloc (.cells #[.int .i64 s, .int .i64 k] 47) = z := ⟨_, rfl⟩
  obtain ⟨b5, gb5⟩ : ∃ z, w1.heap.size = z := ⟨_, rfl⟩
  rw [gw2] at HX1 HE1 HY1 ⊢
  rw [gb5] at HY1 HN1 ⊢
  clear gw2 gb5 HX0 HE0 HR0 HF
  have d0 := HY1.out.cell (i := 0) rfl
  have d1 := HY1.out.cell (i := 1) rfl
  cases my with
  | false =>
    have ht := Ht.out
    rw [if_neg (by decide)] at ht
    injection ht with e1 e2
    subst e1 e2
    go_upto_region 3 with (first
      | (go_at_call 78
         refine (HMy.out _).mono ?_
         rintro e w3 ⟨rfl, hb3⟩
         have HX3 := Lib.hid (HX1.out.bl hb3)
         have HE3 := Lib.hid (Ext.trans HE1.out hb3)
         clear hb3 d0 d1))
    go_wp2_with (first
      | (go_at_call 36
         refine (HC2.out _ HE3.out).mono ?_
         rintro e w4 ⟨A4, c4, rfl, -, -, -, hb4⟩
         rw [Gm.out]
         have HX4 := Lib.hid (HX3.out.bl hb4)
         have HE4 : RowKit.Hid (Ext w w4) := Lib.hid (Ext.trans HE3.out hb4)
         have q0 := HX4.out.cell (i := 0) rfl
         have q1 := HX4.out.cell (i := 1) rfl
         have f0 := HX4.out.free 0
         have f1 := HX4.out.free 1
         clear hb4))
    have HXz := (HX4.out.set_ 0 (.int .i64 0)).set_ 1 (.int .i64 0)
    have HBz := ((show Below w.heap.size w w4 from HE4.out).setCell (p := ⟨b, 0, none⟩) (by show w.heap.size ≤ b; exact Nat.le_of_eq Gb.out) (.int .i64 0)).setCell (p := ⟨b, 1, none⟩) (by show w.heap.size ≤ b; exact Nat.le_of_eq Gb.out) (.int .i64 0)
    exact ret_whole3 rfl b rfl rfl rfl HXz Try.underlying47 rfl (by kernel_rfl) rfl ⟨A4, m, c4, false, rfl, HBz⟩
  | true =>
    have ht := Ht.out
    rw [if_pos rfl] at ht
    injection ht with e1 e2
    subst e1 e2
    go_upto_region 4 with (first
      | (go_at_call 78
         refine (HMy.out _).mono ?_
         rintro e w3 ⟨rfl, hb3⟩
         have HX3 := Lib.hid (HX1.out.bl hb3)
         have HE3 : RowKit.Hid (Ext w w3) := Lib.hid (Ext.trans HE1.out hb3)
         have HY3 := Lib.hid (HY1.out.bl hb3)
         clear hb3 d0 d1))
    have HDr : RowKit.Hid (Ext w3 w3.drew) := Lib.hid (below_drewN w3.heap.size w3 1)
    have ld0 : ∀ w', Kept (fun i => i = b) w3.drew w' → w'.cell? ⟨b5, 0, none⟩ = some (.int .i64 t1) := fun w' h => h.cell (HY3.out.dr.cell (i := 0) rfl) HN1.out
    have ld1 : ∀ w', Kept (fun i => i = b) w3.drew w' → w'.cell? ⟨b5, 1, none⟩ = some (.int .i64 t2) := fun w' h => h.cell (HY3.out.dr.cell (i := 1) rfl) HN1.out
    refine wp_region_reg (fun i => i = b) (by kernel_rfl) ?_
    refine opR_ 0 14 (v := ?_) ?_ ?_; rotate_left
    · intro w' hw'; go_simp; (try with_reducible rfl)
    simp only [st0_, st1_]
    refine opR_ 1 15 (v := ?_) ?_ ?_; rotate_left
    · intro w' hw'; go_simp; (try with_reducible rfl)
    simp only [st0_, st1_]
    refine opX_ 2 16 ?_
    apply Exists.intro
    apply And.intro
    · apply yr_run; rfl; intro w' hw'; exact exec_slice_low_as 23 5 (.tmp 15) (.const (.int .i64 4)) rfl Try.underlying23 (s := 1) (by kernel_rfl) rfl rfl Hm4.out.1 HAr.out Hm4.out.2 rfl
    simp only [st0_, st1_]
    apply wpR_call 3 (some 17)
    · rfl
    · rfl
    · kernel_rfl
    · rfl
    · intro w'; go_simp; first | done | exact ⟨rfl, rfl⟩ | with_reducible rfl
    intro w' hw'
    have hE := Ext.trans HDr.out hw'
    refine (HC1.out w' (Ext.trans HE3.out hE)).mono ?_
    rintro e w4 ⟨A4, c4, rfl, -, -, -, hb4⟩
    rw [Gr.out]
    refine ⟨_, rfl, Kept.of_below hb4, ?_⟩
    have HX4 := Lib.hid (HX3.out.bl (Ext.trans hE hb4))
    have HE4 : RowKit.Hid (Ext w w4) := Lib.hid (Ext.trans HE3.out (Ext.trans hE hb4))
    clear hE hb4 hw' ld0 ld1
    simp only [Act.put, stA_, st0_, st1_]
    apply wpR_store 4
    · rfl
    · rfl
    · kernel_rfl
    · rfl
    intro w' hw'
    refine ⟨w'.setRow b #[.int .i64 t1, .int .i64 t2], store_row_run 47 (.tmp 2) (.tmp 14) rfl b rfl [.int .i64 t1, .int .i64 t2] rfl 47 [.int .i64 0, .int .i64 0] (HX4.out.bl hw') (by kernel_rfl) rfl (by simp [Value.oneCell']), kept_setRow (S := fun i => i = b) w' b rfl _, ?_⟩
    have HX5 : RowKit.Hid (Whole (w'.setRow b #[.int .i64 t1, .int .i64 t2]) b 47 [.int .i64 t1, .int .i64 t2]) := Lib.hid (Whole.row (HX4.out.bl hw') [_, _])
    have HB5 : RowKit.Hid (Below w.heap.size w (w'.setRow b #[.int .i64 t1, .int .i64 t2])) := Lib.hid (below_row (Ext.trans HE4.out hw') (Nat.le_of_eq Gb.out) _)
    clear hw' 
    try simp only [Act.put, stA_, st0_, st1_]
    refine opR_ 5 3 (v := ?_) ?_ ?_; rotate_left
    · intro w' hw'; go_simp; (try with_reducible rfl)
    simp only [st0_, st1_]
    refine opR_ 6 4 (v := ?_) ?_ ?_; rotate_left
    · intro w' hw'; go_simp; (try with_reducible rfl)
    simp only [st0_, st1_]
    refine wpR_done (by kernel_rfl) ?_ _
    intro w10 hw10
    have HX9 := Lib.hid (HX5.out.bl hw10)
    have HB9 := Lib.hid (bel_bl HB5.out hw10)
    clear hw10
    go_wp2
    exact ret_whole3 rfl b rfl rfl rfl HX9.out Try.underlying47 rfl (by kernel_rfl) rfl ⟨A4, r, c4, true, rfl, HB9.out⟩
end Go.Proofs.Ytinfbaflkjghhaa
/- The document's Num. -/
namespace Go.Proofs.Ytinfbaflkjghhaa
open Go.RowKit
end Go.Proofs.Ytinfbaflkjghhaa
/- The document's Text, TakeNum, TakeText. -/
namespace Go.Proofs.Ytinfbaflkjghhaa
open Go.RowKit
/-- What the document's TakeNum tells. -/
def GivesRN (w : World) (L : List Nat) (e : Ending) (w' : World) : Prop :=
  ∃ A n c, e = .returned (.tuple #[.int .i64 (if 8 ≤ L.length then num8 (L.take 8) else 0), .slice A n c, .bool (decide (8 ≤ L.length))]) ∧ n = (if 8 ≤ L.length then L.drop 8 else L).length ∧ RdS w' w'.heap.size 1 A n c (rowsV f8 (if 8 ≤ L.length then L.drop 8 else L)) ∧ Below w.heap.size w w'
theorem u64_step (X b : Nat) (hX : X < 72057594037927936) (hb : b < 256) : IntKind.u64.wrap (256 * (X : Int)) = ((256 * X : Nat) : Int) ∧ IntKind.u64.wrap (((256 * X : Nat) : Int) + (b : Int)) = ((X * 256 + b : Nat) : Int) := by
  constructor <;> · rw [IntKind.wrap_u64]; omega
set_option maxRecDepth 100000 in
set_option maxHeartbeats 4000000 in
theorem rtakenum_any (A : Option Addr) (n c : Nat) (L : List Nat) (w : World) (h : RdS w w.heap.size 1 A n c (rowsV f8 L)) (hn : n ≤ 100000) (hb : ∀ b ∈ L, b < 256) :
    Calls Try.prog 22 #[.slice A n c] w (GivesRN w L) := by
  have hl := h.rlen f8_len (by decide)
  unfold GivesRN
  rw [hl]
  by_cases h8 : 8 ≤ n
  · rw [if_pos h8, if_pos h8, decide_eq_true h8]
    have hlow := h.low_ (k := 8) h8
    have hdl : (L.drop 8).length = n - 8 := by rw [List.length_drop, hl]
    rw [show (rowsV f8 L).drop (8 * 1) = rowsV f8 (L.drop 8) from by rw [rowsV_map8, rowsV_map8, List.map_drop], ← hdl] at hlow
    obtain ⟨A1, hA1⟩ : ∃ A1, (if c = 8 then A else A.map (·.add (8 * 1))) = A1 := ⟨_, rfl⟩
    rw [hA1] at hlow
    have HLow := Lib.hid hlow
    obtain ⟨M, gM⟩ : ∃ M, L.drop 8 = M := ⟨_, rfl⟩
    rw [gM] at HLow hdl ⊢
    obtain ⟨m, gm⟩ : ∃ m, M.length = m := ⟨_, rfl⟩
    rw [gm] at HLow hdl ⊢
    obtain ⟨bb, off, rfl, -, hp⟩ := byte_at h (by omega)
    have Hp := Lib.hid hp
    have Hb := Lib.hid hb
    have Hl := Lib.hid hl
    have Hlt := Lib.hid (fun k hk => deN_lt hb k hk)
    have HAr := Lib.hid hA1
    have Hml := Lib.hid hdl.symm
    obtain ⟨x, gx⟩ : ∃ x, num8 (L.take 8) = x := ⟨_, rfl⟩
    have Gx := Lib.hid gx
    rw [gx]
    have hd1 : decide ((n : Int) < 8) = false := decide_eq_false (by omega)
    have hd2 : decide (n < 8) = false := decide_eq_false (by omega)
    have H8 := Lib.hid h8
    clear h hb hlow gM gm hA1 hdl hp gx hl
    go_enter Try.func22, Try.ntmps22
    go_upto_region 4 with fail
    clear hd1 hd2
    go_wp2
    go_loop [5, 6] (fun u i => ∃ k : Nat, k ≤ 8 ∧ u = .int .u64 ((deN (L.take k) : Nat) : Int) ∧ i = .int .i64 (k : Int)) (fun _ i => 8 - (intOf i).toNat)
    case atStart => exact ⟨0, by omega, by simp [deN], by simp⟩
    case round =>
      obtain ⟨k, hk, rfl, rfl⟩ := hrel
      by_cases hlt : k < 8
      · obtain ⟨b, hbk⟩ : ∃ b, L[k]? = some b := ⟨_, List.getElem?_eq_getElem (by have := Hl.out; omega)⟩
        have l0 := Hp.out k b hbk
        have hb6 : b < 256 := Hb.out b (List.mem_of_getElem? hbk)
        have hd : deN (L.take (k + 1)) = deN (L.take k) * 256 + b := by rw [take_snoc_ L k b hbk, deN_snoc]
        have hdl : deN (L.take k) < 72057594037927936 := by
          have h1 := Hlt.out k (by have := Hl.out; omega)
          have h2 : 256 ^ k ≤ 256 ^ 7 := Nat.pow_le_pow_right (by omega) (by omega)
          omega
        obtain ⟨X, gX⟩ : ∃ X, deN (L.take k) = X := ⟨_, rfl⟩
        rw [gX] at hd hdl ⊢
        have Hd := Lib.hid hd
        obtain ⟨hw1, hw3⟩ := u64_step X b hdl hb6
        obtain ⟨X2, gX2⟩ : ∃ z, 256 * X = z := ⟨_, rfl⟩
        rw [gX2] at hw1 hw3
        obtain ⟨X3, gX3⟩ : ∃ z, X * 256 + b = z := ⟨_, rfl⟩
        rw [gX3] at hw3
        have Hd2 : RowKit.Hid (deN (L.take (k + 1)) = X3) := Lib.hid (by rw [hd, gX3])
        have hw2 : IntKind.u64.wrap (b : Int) = (b : Int) := by rw [IntKind.wrap_u64]; omega
        have hk8 : (k : Int) < 8 := by omega
        have hkn : (k : Int) < (n : Int) := by have := H8.out; omega
        clear gX hd hbk gX2 gX3 hdl
        go_wp2
        refine ⟨⟨k + 1, by omega, ?_, by go_num⟩, by simp [intOf]; omega⟩
        rw [Hd2.out]
      · obtain rfl : k = 8 := by omega
        have hwx : IntKind.i64.wrap ((deN (L.take 8) : Nat) : Int) = x := Gx.out
        obtain ⟨X, gX⟩ : ∃ X, deN (L.take 8) = X := ⟨_, rfl⟩
        rw [gX] at hwx ⊢
        clear gX
        go_upto_region 8 with fail
        refine wp_region_reg (Nil_) (by kernel_rfl) ?_
        refine opR_ 0 23 (v := ?_) ?_ ?_; rotate_left
        · intro w' hw'; go_simp; (try with_reducible rfl)
        simp only [st0_, st1_]
        refine opR_ 1 24 (v := ?_) ?_ ?_; rotate_left
        · intro w' hw'; go_simp; (try with_reducible rfl)
        simp only [st0_, st1_]
        refine opR_ 2 25 (v := ?_) ?_ ?_; rotate_left
        · intro w' hw'; go_simp; (try with_reducible rfl)
        simp only [st0_, st1_]
        refine opX_ 3 26 ?_
        apply Exists.intro
        apply And.intro
        · apply yr_run; rfl; intro w' hw'; exact exec_slice_low_as 23 5 (.tmp 25) (.const (.int .i64 8)) rfl Try.underlying23 (s := 1) (by kernel_rfl) rfl rfl H8.out HAr.out Hml.out rfl
        simp only [st0_, st1_]
        refine opR_ 4 2 (v := ?_) ?_ ?_; rotate_left
        · intro w' hw'; go_simp; (try with_reducible rfl)
        simp only [st0_, st1_]
        refine opR_ 5 3 (v := ?_) ?_ ?_; rotate_left
        · intro w' hw'; go_simp; (try with_reducible rfl)
        simp only [st0_, st1_]
        refine opR_ 6 4 (v := ?_) ?_ ?_; rotate_left
        · intro w' hw'; go_simp; (try with_reducible rfl)
        simp only [st0_, st1_]
        refine wpR_done (by kernel_rfl) ?_ _
        intro w9 hw9
        have HD9 : RowKit.Hid (Ext w w9) := Lib.hid (Ext.trans (below_drewN w.heap.size w 1) hw9)
        clear hw9
        go_wp2
        refine bodyPost_ret (v := .tuple #[.int .i64 x, .slice A1 m (c - 8), .bool true]) (by simp [results, Try.results22, go_sem]) rfl ?_
        exact ⟨A1, m, c - 8, rfl, rfl, HLow.out.bl HD9.out, HD9.out⟩
  · rw [if_neg h8, if_neg h8, decide_eq_false h8]
    have HR := Lib.hid h
    have Hl := Lib.hid hl
    have hd1 : decide ((n : Int) < 8) = true := decide_eq_true (by omega)
    have hd2 : decide (n < 8) = true := decide_eq_true (by omega)
    clear h hb hn hl
    go_enter Try.func22, Try.ntmps22
    go_wp2
    exact bodyPost_ret (v := .tuple #[.int .i64 0, .slice A n c, .bool false]) (by simp [results, Try.results22, go_sem]) rfl ⟨A, n, c, rfl, Hl.out.symm, HR.out, Below.refl _ _⟩
end Go.Proofs.Ytinfbaflkjghhaa
/- The document's TakeText. -/
namespace Go.Proofs.Ytinfbaflkjghhaa
open Go.RowKit
end Go.Proofs.Ytinfbaflkjghhaa
/- The document's TakeNum and TakeText: what is left lies where the bytes lay. -/
namespace Go.Proofs.Ytinfbaflkjghhaa
open Go.RowKit
/-- Where A' lies, A lies. -/
def Lies (A A' : Option Addr) : Prop := ∀ a', A' = some a' → ∃ a, A = some a ∧ a.block = a'.block
theorem lies_low {A A1 : Option Addr} {c j s : Nat} (h : (if c = j then A else A.map (·.add (j * s))) = A1) : Lies A A1 := fun a' e => by
  subst e
  split at h
  · exact ⟨a', h, rfl⟩
  · cases A with
    | none => cases h
    | some a =>
      refine ⟨a, rfl, ?_⟩
      have := Option.some.inj h
      rw [← this]
      show a.block = (a.add (j * s)).block
      unfold Addr.add
      first | rfl | (split <;> rfl)
theorem Lies.trans {A A' A'' : Option Addr} (h : Lies A A') (k : Lies A' A'') : Lies A A'' := fun a e => by
  obtain ⟨b, hb, e1⟩ := k a e
  obtain ⟨c, hc, e2⟩ := h b hb
  exact ⟨c, hc, e2.trans e1⟩
def GivesRN2 (w : World) (A0 : Option Addr) (L : List Nat) (e : Ending) (w' : World) : Prop :=
  ∃ A n c, e = .returned (.tuple #[.int .i64 (if 8 ≤ L.length then num8 (L.take 8) else 0), .slice A n c, .bool (decide (8 ≤ L.length))]) ∧ n = (if 8 ≤ L.length then L.drop 8 else L).length ∧ RdS w' w'.heap.size 1 A n c (rowsV f8 (if 8 ≤ L.length then L.drop 8 else L)) ∧ Lies A0 A ∧ Below w.heap.size w w'
def GivesRT2 (w : World) (A0 : Option Addr) (L : List Nat) (e : Ending) (w' : World) : Prop :=
  ∃ A n c, e = .returned (.tuple #[.string (txT L), .slice A n c, .bool (isT L)]) ∧ n = (leT L).length ∧ RdS w' w'.heap.size 1 A n c (rowsV f8 (leT L)) ∧ Lies A0 A ∧ Below w.heap.size w w'
set_option maxRecDepth 100000 in
set_option maxHeartbeats 4000000 in
theorem rtakenum_blk (A : Option Addr) (n c : Nat) (L : List Nat) (w : World) (h : RdS w w.heap.size 1 A n c (rowsV f8 L)) (hn : n ≤ 100000) (hb : ∀ b ∈ L, b < 256) :
    Calls Try.prog 22 #[.slice A n c] w (GivesRN2 w A L) := by
  have hl := h.rlen f8_len (by decide)
  unfold GivesRN2
  rw [hl]
  by_cases h8 : 8 ≤ n
  · rw [if_pos h8, if_pos h8, decide_eq_true h8]
    have hlow := h.low_ (k := 8) h8
    have hdl : (L.drop 8).length = n - 8 := by rw [List.length_drop, hl]
    rw [show (rowsV f8 L).drop (8 * 1) = rowsV f8 (L.drop 8) from by rw [rowsV_map8, rowsV_map8, List.map_drop], ← hdl] at hlow
    obtain ⟨A1, hA1⟩ : ∃ A1, (if c = 8 then A else A.map (·.add (8 * 1))) = A1 := ⟨_, rfl⟩
    rw [hA1] at hlow
    have HLow := Lib.hid hlow
    obtain ⟨M, gM⟩ : ∃ M, L.drop 8 = M := ⟨_, rfl⟩
    rw [gM] at HLow hdl ⊢
    obtain ⟨m, gm⟩ : ∃ m, M.length = m := ⟨_, rfl⟩
    rw [gm] at HLow hdl ⊢
    obtain ⟨bb, off, rfl, -, hp⟩ := byte_at h (by omega)
    have Hp := Lib.hid hp
    have Hb := Lib.hid hb
    have Hl := Lib.hid hl
    have Hlt := Lib.hid (fun k hk => deN_lt hb k hk)
    have HAr := Lib.hid hA1
    have Hml := Lib.hid hdl.symm
    obtain ⟨x, gx⟩ : ∃ x, num8 (L.take 8) = x := ⟨_, rfl⟩
    have Gx := Lib.hid gx
    rw [gx]
    have hd1 : decide ((n : Int) < 8) = false := decide_eq_false (by omega)
    have hd2 : decide (n < 8) = false := decide_eq_false (by omega)
    have H8 := Lib.hid h8
    clear h hb hlow gM gm hA1 hdl hp gx hl
    go_enter Try.func22, Try.ntmps22
    go_upto_region 4 with fail
    clear hd1 hd2
    go_wp2
    go_loop [5, 6] (fun u i => ∃ k : Nat, k ≤ 8 ∧ u = .int .u64 ((deN (L.take k) : Nat) : Int) ∧ i = .int .i64 (k : Int)) (fun _ i => 8 - (intOf i).toNat)
    case atStart => exact ⟨0, by omega, by simp [deN], by simp⟩
    case round =>
      obtain ⟨k, hk, rfl, rfl⟩ := hrel
      by_cases hlt : k < 8
      · obtain ⟨b, hbk⟩ : ∃ b, L[k]? = some b := ⟨_, List.getElem?_eq_getElem (by have := Hl.out; omega)⟩
        have l0 := Hp.out k b hbk
        have hb6 : b < 256 := Hb.out b (List.mem_of_getElem? hbk)
        have hd : deN (L.take (k + 1)) = deN (L.take k) * 256 + b := by rw [take_snoc_ L k b hbk, deN_snoc]
        have hdl : deN (L.take k) < 72057594037927936 := by
          have h1 := Hlt.out k (by have := Hl.out; omega)
          have h2 : 256 ^ k ≤ 256 ^ 7 := Nat.pow_le_pow_right (by omega) (by omega)
          omega
        obtain ⟨X, gX⟩ : ∃ X, deN (L.take k) = X := ⟨_, rfl⟩
        rw [gX] at hd hdl ⊢
        have Hd := Lib.hid hd
        obtain ⟨hw1, hw3⟩ := u64_step X b hdl hb6
        obtain ⟨X2, gX2⟩ : ∃ z, 256 * X = z := ⟨_, rfl⟩
        rw [gX2] at hw1 hw3
        obtain ⟨X3, gX3⟩ : ∃ z, X * 256 + b = z := ⟨_, rfl⟩
        rw [gX3] at hw3
        have Hd2 : RowKit.Hid (deN (L.take (k + 1)) = X3) := Lib.hid (by rw [hd, gX3])
        have hw2 : IntKind.u64.wrap (b : Int) = (b : Int) := by rw [IntKind.wrap_u64]; omega
        have hk8 : (k : Int) < 8 := by omega
        have hkn : (k : Int) < (n : Int) := by have := H8.out; omega
        clear gX hd hbk gX2 gX3 hdl
        go_wp2
        refine ⟨⟨k + 1, by omega, ?_, by go_num⟩, by simp [intOf]; omega⟩
        rw [Hd2.out]
      · obtain rfl : k = 8 := by omega
        have hwx : IntKind.i64.wrap ((deN (L.take 8) : Nat) : Int) = x := Gx.out
        obtain ⟨X, gX⟩ : ∃ X, deN (L.take 8) = X := ⟨_, rfl⟩
        rw [gX] at hwx ⊢
        clear gX
        go_upto_region 8 with fail
        refine wp_region_reg (Nil_) (by kernel_rfl) ?_
        refine opR_ 0 23 (v := ?_) ?_ ?_; rotate_left
        · intro w' hw'; go_simp; (try with_reducible rfl)
        simp only [st0_, st1_]
        refine opR_ 1 24 (v := ?_) ?_ ?_; rotate_left
        · intro w' hw'; go_simp; (try with_reducible rfl)
        simp only [st0_, st1_]
        refine opR_ 2 25 (v := ?_) ?_ ?_; rotate_left
        · intro w' hw'; go_simp; (try with_reducible rfl)
        simp only [st0_, st1_]
        refine opX_ 3 26 ?_
        apply Exists.intro
        apply And.intro
        · apply yr_run; rfl; intro w' hw'; exact exec_slice_low_as 23 5 (.tmp 25) (.const (.int .i64 8)) rfl Try.underlying23 (s := 1) (by kernel_rfl) rfl rfl H8.out HAr.out Hml.out rfl
        simp only [st0_, st1_]
        refine opR_ 4 2 (v := ?_) ?_ ?_; rotate_left
        · intro w' hw'; go_simp; (try with_reducible rfl)
        simp only [st0_, st1_]
        refine opR_ 5 3 (v := ?_) ?_ ?_; rotate_left
        · intro w' hw'; go_simp; (try with_reducible rfl)
        simp only [st0_, st1_]
        refine opR_ 6 4 (v := ?_) ?_ ?_; rotate_left
        · intro w' hw'; go_simp; (try with_reducible rfl)
        simp only [st0_, st1_]
        refine wpR_done (by kernel_rfl) ?_ _
        intro w9 hw9
        have HD9 : RowKit.Hid (Ext w w9) := Lib.hid (Ext.trans (below_drewN w.heap.size w 1) hw9)
        clear hw9
        go_wp2
        refine bodyPost_ret (v := .tuple #[.int .i64 x, .slice A1 m (c - 8), .bool true]) (by simp [results, Try.results22, go_sem]) rfl ?_
        exact ⟨A1, m, c - 8, rfl, rfl, HLow.out.bl HD9.out, lies_low HAr.out, HD9.out⟩
  · rw [if_neg h8, if_neg h8, decide_eq_false h8]
    have HR := Lib.hid h
    have Hl := Lib.hid hl
    have hd1 : decide ((n : Int) < 8) = true := decide_eq_true (by omega)
    have hd2 : decide (n < 8) = true := decide_eq_true (by omega)
    clear h hb hn hl
    go_enter Try.func22, Try.ntmps22
    go_wp2
    exact bodyPost_ret (v := .tuple #[.int .i64 0, .slice A n c, .bool false]) (by simp [results, Try.results22, go_sem]) rfl ⟨A, n, c, rfl, Hl.out.symm, HR.out, fun a' e => ⟨a', e, rfl⟩, Below.refl _ _⟩
set_option maxRecDepth 100000 in
set_option maxHeartbeats 1000000 in
theorem rtaketext_blk (A : Option Addr) (c : Nat) (L : List Nat) (w : World) (h : RdS w w.heap.size 1 A L.length c (rowsV f8 L)) (hn : L.length ≤ 100000) (hb : ∀ b ∈ L, b < 256) :
    Calls Try.prog 77 #[.slice A L.length c] w (GivesRT2 w A L) := by
  unfold GivesRT2
  by_cases hT : isT L = true
  · obtain ⟨h1, h2⟩ := of_decide_eq_true hT
    obtain ⟨b, hb0⟩ : ∃ b, L[0]? = some b := ⟨_, List.getElem?_eq_getElem (by omega)⟩
    have hc1 : c1 L = b := by unfold c1; cases L with | nil => cases hb0 | cons x L => simpa using hb0
    have hb6 : b < 256 := hb b (List.mem_of_getElem? hb0)
    unfold txT leT
    rw [if_pos hT, if_pos hT, hT]
    rw [hc1] at h2 ⊢
    have hlow := h.low_ (k := 1 + b) h2
    have hdl : (L.drop (1 + b)).length = L.length - (1 + b) := List.length_drop
    rw [show (rowsV f8 L).drop ((1 + b) * 1) = rowsV f8 (L.drop (1 + b)) from by rw [rowsV_map8, rowsV_map8, List.map_drop, Nat.mul_one], ← hdl] at hlow
    obtain ⟨A1, hA1⟩ : ∃ A1, (if c = 1 + b then A else A.map (·.add ((1 + b) * 1))) = A1 := ⟨_, rfl⟩
    rw [hA1] at hlow
    have HLow := Lib.hid hlow
    -- the text
    have hmid := h.low_ (k := 1) h1
    rw [show (rowsV f8 L).drop (1 * 1) = rowsV f8 (L.drop 1) from by rw [rowsV_map8, rowsV_map8, List.map_drop]] at hmid
    obtain ⟨A3, hA3⟩ : ∃ A3, (if c = 1 then A else A.map (·.add (1 * 1))) = A3 := ⟨_, rfl⟩
    rw [hA3] at hmid
    have htk := hmid.take_ b (by omega)
    rw [show (rowsV f8 (L.drop 1)).take (b * 1) = rowsV f8 ((L.drop 1).take b) from by rw [rowsV_map8, rowsV_map8, List.map_take, Nat.mul_one]] at htk
    have HV := Lib.hid (fun W (hW : Ext w W) => conv_txt (htk.up hW hW.size))
    obtain ⟨s, gs⟩ : ∃ s, txt ((L.drop 1).take b) = s := ⟨_, rfl⟩
    rw [gs] at HV ⊢
    obtain ⟨M, gM⟩ : ∃ M, L.drop (1 + b) = M := ⟨_, rfl⟩
    rw [gM] at HLow hdl ⊢
    obtain ⟨bb, off, rfl, -, hp⟩ := byte_at h (by omega)
    have l0 := hp 0 b hb0
    rw [Nat.add_zero] at l0
    obtain ⟨n, gn⟩ : ∃ n, L.length = n := ⟨_, rfl⟩
    have hle := h.le
    rw [gn] at hdl h1 h2 hn hle ⊢
    obtain ⟨m, gm⟩ : ∃ m, M.length = m := ⟨_, rfl⟩
    have Gm := Lib.hid gm
    rw [gm] at HLow hdl ⊢
    have hw1 : IntKind.i64.wrap (1 + (b : Int)) = ((1 + b : Nat) : Int) := by rw [IntWalk.i64_in _ (by omega)]; omega
    have hw2 : IntKind.i64.wrap (b : Int) = (b : Int) := IntWalk.i64_in _ (by omega)
    obtain ⟨e, ge⟩ : ∃ e, 1 + b = e := ⟨_, rfl⟩
    rw [ge] at hw1 hA1 hdl HLow h2
    have heb : RowKit.Hid (e - 1 = b) := Lib.hid (by omega)
    have He1 : RowKit.Hid (1 ≤ e ∧ e ≤ c ∧ e ≤ n) := Lib.hid (by omega)
    have d1 : decide (n ≤ b) = false := decide_eq_false (by omega)
    have d2 : decide ((n : Int) ≤ (b : Int)) = false := decide_eq_false (by omega)
    have d3 : ((n : Int) == 0) = false := beq_eq_false_iff_ne.2 (by omega)
    have d4 : (n == 0) = false := beq_eq_false_iff_ne.2 (by omega)
    have d5 : (0 : Int) < (n : Int) := by omega
    have HAr := Lib.hid hA1
    have HAs := Lib.hid hA3
    have Hml := Lib.hid hdl.symm
    clear h hb hlow hmid htk gs gM gn gm ge hA1 hA3 hdl hb0 hc1 hp hT hle
    go_enter Try.func77, Try.ntmps77
    go_upto_region 4 with fail
    have HD : RowKit.Hid (Ext w w.drew) := Lib.hid (below_drewN w.heap.size w 1)
    refine wp_region_reg (Nil_) (by kernel_rfl) ?_
    refine opR_ 0 25 (v := ?_) ?_ ?_; rotate_left
    · intro w' hw'; go_simp; (try with_reducible rfl)
    simp only [st0_, st1_]
    refine opR_ 1 26 (v := ?_) ?_ ?_; rotate_left
    · intro w' hw'; go_simp; (try with_reducible rfl)
    simp only [st0_, st1_]
    refine opX_ 2 27 ?_
    apply Exists.intro
    apply And.intro
    · apply yr_run; rfl; intro w' hw'; exact exec_slice_as 23 5 (.tmp 25) (.const (.int .i64 1)) (.tmp 26) rfl Try.underlying23 (s := 1) (by kernel_rfl) rfl rfl rfl He1.out.1 He1.out.2.1 HAs.out heb.out rfl
    simp only [st0_, st1_]
    refine opX_ 3 28 ?_
    apply Exists.intro
    apply And.intro
    · apply yr_run; rfl; intro w' hw'; exact exec_convert 23 9 (.tmp 27) rfl rfl (HV.out w' (HD.out.trans hw'.ext_nil))
    simp only [st0_, st1_]
    refine opR_ 4 29 (v := ?_) ?_ ?_; rotate_left
    · intro w' hw'; go_simp; (try with_reducible rfl)
    simp only [st0_, st1_]
    refine opR_ 5 30 (v := ?_) ?_ ?_; rotate_left
    · intro w' hw'; go_simp; (try with_reducible rfl)
    simp only [st0_, st1_]
    refine opX_ 6 31 ?_
    apply Exists.intro
    apply And.intro
    · apply yr_run; rfl; intro w' hw'; exact exec_slice_low_as 23 5 (.tmp 29) (.tmp 30) rfl Try.underlying23 (s := 1) (by kernel_rfl) rfl rfl He1.out.2.2 HAr.out Hml.out rfl
    simp only [st0_, st1_]
    refine opR_ 7 2 (v := ?_) ?_ ?_; rotate_left
    · intro w' hw'; go_simp; (try with_reducible rfl)
    simp only [st0_, st1_]
    refine opR_ 8 3 (v := ?_) ?_ ?_; rotate_left
    · intro w' hw'; go_simp; (try with_reducible rfl)
    simp only [st0_, st1_]
    refine opR_ 9 4 (v := ?_) ?_ ?_; rotate_left
    · intro w' hw'; go_simp; (try with_reducible rfl)
    simp only [st0_, st1_]
    refine wpR_done (by kernel_rfl) ?_ _
    intro w9 hw9
    have HD9 : RowKit.Hid (Ext w w9) := Lib.hid (Ext.trans HD.out hw9)
    clear hw9
    go_wp2
    refine bodyPost_ret (v := .tuple #[.string s, .slice A1 m (c - e), .bool true]) (by simp [results, Try.results77, go_sem]) rfl ?_
    exact ⟨A1, m, c - e, rfl, rfl, HLow.out.bl HD9.out, lies_low HAr.out, HD9.out⟩
  · have hf : isT L = false := by simpa using hT
    unfold txT leT
    rw [if_neg hT, if_neg hT, hf]
    have HR := Lib.hid h
    by_cases h1 : 1 ≤ L.length
    · obtain ⟨b, hb0⟩ : ∃ b, L[0]? = some b := ⟨_, List.getElem?_eq_getElem (by omega)⟩
      have hc1 : c1 L = b := by unfold c1; cases L with | nil => cases hb0 | cons x L => simpa using hb0
      have hb6 : b < 256 := hb b (List.mem_of_getElem? hb0)
      have hlt : ¬ (1 + b ≤ L.length) := fun q => by rw [← hc1] at q; exact hT (decide_eq_true ⟨h1, q⟩)
      obtain ⟨bb, off, rfl, -, hp⟩ := byte_at h (by omega)
      have l0 := hp 0 b hb0
      rw [Nat.add_zero] at l0
      obtain ⟨n, gn⟩ : ∃ n, L.length = n := ⟨_, rfl⟩
      have Gn := Lib.hid gn
      have hle := h.le
      rw [gn] at hlt h1 HR hle ⊢
      have hw2 : IntKind.i64.wrap (b : Int) = (b : Int) := IntWalk.i64_in _ (by omega)
      have d1 : decide (n ≤ b) = true := decide_eq_true (by omega)
      have d2 : decide ((n : Int) ≤ (b : Int)) = true := decide_eq_true (by omega)
      obtain ⟨e, ge⟩ : ∃ z, 1 + b = z := ⟨_, rfl⟩
      have hw1 : IntKind.i64.wrap (1 + (b : Int)) = (e : Int) := by rw [IntWalk.i64_in _ (by omega)]; omega
      have d6 : decide ((n : Int) < (e : Int)) = true := decide_eq_true (by omega)
      have d7 : decide (n < e) = true := decide_eq_true (by omega)
      have d8 : decide ((n : Int) < 1) = false := decide_eq_false (by omega)
      have d9 : decide (n < 1) = false := decide_eq_false (by omega)
      have da : n < e := by omega
      clear d1 d2 ge
      have d3 : ((n : Int) == 0) = false := beq_eq_false_iff_ne.2 (by omega)
      have d4 : (n == 0) = false := beq_eq_false_iff_ne.2 (by omega)
      have d5 : (0 : Int) < (n : Int) := by omega
      clear h hb gn hn hb0 hc1 hp hT hlt hf
      go_enter Try.func77, Try.ntmps77
      go_wp2
      refine bodyPost_ret (v := .tuple #[.string { data := #[] }, .slice (some ⟨bb, off, none⟩) n c, .bool false]) (by simp [results, Try.results77, go_sem, Gn.out]) rfl ?_
      exact ⟨_, n, c, rfl, rfl, HR.out, fun a' e => ⟨a', e, rfl⟩, Below.refl _ _⟩
    · obtain ⟨n, gn⟩ : ∃ n, L.length = n := ⟨_, rfl⟩
      have Gn := Lib.hid gn
      rw [gn] at h1 HR ⊢
      obtain rfl : n = 0 := by omega
      clear h hb gn hn hT hf
      go_enter Try.func77, Try.ntmps77
      go_wp2
      refine bodyPost_ret (v := .tuple #[.string { data := #[] }, .slice A 0 c, .bool false]) (by simp [results, Try.results77, go_sem, Gn.out]) rfl ?_
      exact ⟨A, 0, c, rfl, rfl, HR.out, fun a' e => ⟨a', e, rfl⟩, Below.refl _ _⟩
end Go.Proofs.Ytinfbaflkjghhaa
/- Out of XPk30 -/
namespace Go.Proofs.Ytinfbaflkjghhaa
open Go.RowKit
/-- What the document's Take of a name tells. -/
def GivesRI (w : World) (A0 : Option Addr) (L : List Nat) (e : Ending) (w' : World) : Prop :=
  ∃ x1 x2 A' n' c' R, e = .returned (.tuple #[.agg #[.int .i64 x1, .int .i64 x2], .slice A' n' c', .bool (idT L)]) ∧ RdS w' w'.heap.size 1 A' n' c' (rowsV f8 R) ∧ (∃ t, R = L.drop t) ∧ (idT L = true → (x1, x2) = nm4 L ∧ R = L.drop 4) ∧ Lies A0 A' ∧ Below w.heap.size w w'
set_option maxRecDepth 100000 in
set_option maxHeartbeats 4000000 in
theorem ridtake_any (A : Option Addr) (n c : Nat) (L : List Nat) (w : World) (h : RdS w w.heap.size 1 A n c (rowsV f8 L)) (hb : ∀ b ∈ L, b < 256) (hn : n ≤ 100000) :
    Calls Try.prog 97 #[.slice A n c] w (GivesRI w A L) := by
  have hl : L.length = n := h.rlen f8_len (by decide)
  have HR := Lib.hid h
  have HX0 : RowKit.Hid (Whole (w.alloc (.cells #[.int .i64 0, .int .i64 0] 47)) w.heap.size 47 [.int .i64 0, .int .i64 0]) := Lib.hid (Whole.new_ _ _ [_, _])
  have HE0 : RowKit.Hid (Ext w (w.alloc (.cells #[.int .i64 0, .int .i64 0] 47))) := Lib.hid (below1 w _)
  by_cases h4 : n < 4
  · have hT : idT L = false := decide_eq_false (fun q => by have := q.1; omega)
    have HT := Lib.hid hT
    have hlt : (n : Int) < 4 := by omega
    clear h hb hl hT
    go_enter Try.func97, Try.ntmps97
    go_upto_region 1 with fail
    obtain ⟨w0, gw0⟩ : ∃ z, w.alloc (.cells #[.int .i64 0, .int .i64 0] 47) = z := ⟨_, rfl⟩
    obtain ⟨b, gb⟩ : ∃ z, w.heap.size = z := ⟨_, rfl⟩
    rw [gw0] at HX0 HE0 ⊢
    rw [gb] at HX0 ⊢
    have Gb := Lib.hid gb
    clear gw0 gb
    have q0 := HX0.out.cell (i := 0) rfl
    have q1 := HX0.out.cell (i := 1) rfl
    have f0 := HX0.out.free 0
    have f1 := HX0.out.free 1
    go_wp2
    have HXz := (HX0.out.set_ 0 (.int .i64 0)).set_ 1 (.int .i64 0)
    have HBz := ((show Below w.heap.size w w0 from HE0.out).setCell (p := ⟨b, 0, none⟩) (by show w.heap.size ≤ b; exact Nat.le_of_eq Gb.out) (.int .i64 0)).setCell (p := ⟨b, 1, none⟩) (by show w.heap.size ≤ b; exact Nat.le_of_eq Gb.out) (.int .i64 0)
    exact ret_whole3 rfl b rfl rfl rfl HXz Try.underlying47 rfl (by kernel_rfl) rfl (by
      unfold GivesRI
      rw [HT.out]
      exact ⟨0, 0, A, n, c, L, rfl, HR.out.up HBz HBz.size, ⟨0, rfl⟩, fun e => (by cases e), fun a' e => ⟨a', e, rfl⟩, HBz⟩)
  · obtain ⟨a0, a1, a2, a3, K, rfl⟩ : ∃ a0 a1 a2 a3 K, L = a0 :: a1 :: a2 :: a3 :: K := by
      have h5 : 4 ≤ L.length := by omega
      match L, h5 with
      | a :: b :: c :: d :: K, _ => exact ⟨a, b, c, d, K, rfl⟩
    have b0 := hb a0 (by simp)
    have b1 := hb a1 (by simp)
    have b2 := hb a2 (by simp)
    have b3 := hb a3 (by simp)
    have hlow := h.low_ (k := 4) (by omega)
    rw [show (rowsV f8 (a0 :: a1 :: a2 :: a3 :: K)).drop (4 * 1) = rowsV f8 K from rfl] at hlow
    obtain ⟨bb, off, rfl, hbB, hpl⟩ := h.place f8_len (by decide) (by omega)
    have q0 := hpl 0 _ rfl 0 _ rfl
    have q1 := hpl 1 _ rfl 0 _ rfl
    have q2 := hpl 2 _ rfl 0 _ rfl
    have q3 := hpl 3 _ rfl 0 _ rfl
    simp only [Addr.add_lit, Nat.add_zero, Nat.mul_one, Nat.zero_mul, Nat.one_mul] at q0 q1 q2 q3
    have l0 := HE0.out.cell q0
    have l1 := HE0.out.cell q1
    have l2 := HE0.out.cell q2
    have l3 := HE0.out.cell q3
    obtain ⟨A1, hA1⟩ : ∃ A1, (if c = 4 then (some ⟨bb, off, none⟩ : Option Addr) else (some ⟨bb, off, none⟩ : Option Addr).map (·.add (4 * 1))) = A1 := ⟨_, rfl⟩
    rw [hA1] at hlow
    obtain ⟨r, gr⟩ : ∃ z, n - 4 = z := ⟨_, rfl⟩
    have HAr := Lib.hid hA1
    have Hm4 : RowKit.Hid (4 ≤ n ∧ n - 4 = r) := Lib.hid ⟨by omega, gr⟩
    rw [gr] at hlow
    have HLow := Lib.hid hlow
    have v0 : IntKind.i64.wrap (a0 : Int) = (a0 : Int) := IntWalk.i64_in _ (by omega)
    have v1 : IntKind.i64.wrap (a1 : Int) = (a1 : Int) := IntWalk.i64_in _ (by omega)
    have v2 : IntKind.i64.wrap (a2 : Int) = (a2 : Int) := IntWalk.i64_in _ (by omega)
    have v3 : IntKind.i64.wrap (a3 : Int) = (a3 : Int) := IntWalk.i64_in _ (by omega)
    obtain ⟨y1, e1⟩ : ∃ z, 65536 * (a1 : Int) = z := ⟨_, rfl⟩
    obtain ⟨y2, e2⟩ : ∃ z, 256 * (a2 : Int) = z := ⟨_, rfl⟩
    obtain ⟨y3, e3⟩ : ∃ z, y1 + y2 = z := ⟨_, rfl⟩
    obtain ⟨k, e4⟩ : ∃ z, y3 + (a3 : Int) = z := ⟨_, rfl⟩
    have m1 : IntKind.i64.wrap y1 = y1 := IntWalk.i64_in _ (by omega)
    have m2 : IntKind.i64.wrap y2 = y2 := IntWalk.i64_in _ (by omega)
    have m3 : IntKind.i64.wrap y3 = y3 := IntWalk.i64_in _ (by omega)
    have m4 : IntKind.i64.wrap k = k := IntWalk.i64_in _ (by omega)
    replace m1 : IntKind.i64.wrap (65536 * (a1 : Int)) = y1 := by rw [e1]; exact m1
    replace m2 : IntKind.i64.wrap (256 * (a2 : Int)) = y2 := by rw [e2]; exact m2
    replace m3 : IntKind.i64.wrap (y1 + y2) = y3 := by rw [e3]; exact m3
    replace m4 : IntKind.i64.wrap (y3 + (a3 : Int)) = k := by rw [e4]; exact m4
    have hnm : nm4 (a0 :: a1 :: a2 :: a3 :: K) = ((a0 : Int), k) := by
      rw [← e4, ← e3, ← e1, ← e2]
      rfl
    obtain ⟨s, gs⟩ : ∃ z : Int, (a0 : Int) = z := ⟨_, rfl⟩
    rw [gs] at hnm v0
    rw [← gs] at v0
    replace v0 : IntKind.i64.wrap (a0 : Int) = s := v0.trans gs
    have hid : idT (a0 :: a1 :: a2 :: a3 :: K) = mayI s k := by
      unfold idT
      rw [hnm]
      show decide (4 ≤ (a0 :: a1 :: a2 :: a3 :: K).length ∧ mayI s k = true) = mayI s k
      by_cases hm : mayI s k = true
      · rw [hm]
        exact decide_eq_true ⟨by simp, rfl⟩
      · have hf : mayI s k = false := by simpa using hm
        rw [hf]
        exact decide_eq_false (fun q => by cases q.2)
    have HN := Lib.hid hnm
    have HMy := Lib.hid (fun W => rmay_any s k W)
    obtain ⟨my, gmy⟩ : ∃ z, mayI s k = z := ⟨_, rfl⟩
    rw [gmy] at HMy hid
    have HT := Lib.hid hid
    have HbB := Lib.hid hbB
    have hge : ¬ (n : Int) < 4 := by omega
    have hn0 : 0 < n := by omega
    have hn1 : (1 : Int) < (n : Int) := by omega
    have hn2 : (2 : Int) < (n : Int) := by omega
    have hn3 : (3 : Int) < (n : Int) := by omega
    clear gs e1 e2 e3 e4 h hb hlow hpl q0 q1 q2 q3 hA1 gr hid hnm gmy hbB hl b0 b1 b2 b3
    go_enter Try.func97, Try.ntmps97
    go_upto_region 3 with fail
    clear hge
    obtain ⟨w0, gw0⟩ : ∃ z, w.alloc (.cells #[.int .i64 0, .int .i64 0] 47) = z := ⟨_, rfl⟩
    have Hsz : RowKit.Hid (w.heap.size < w0.heap.size) := Lib.hid (by rw [← gw0]; simp)
    obtain ⟨b, gb⟩ : ∃ z, w.heap.size = z := ⟨_, rfl⟩
    rw [gw0] at HX0 HE0 l0 l1 l2 l3 ⊢
    rw [gb] at HX0 ⊢
    have Gb := Lib.hid gb
    clear gw0 gb
    have HDr : RowKit.Hid (Ext w0 w0.drew) := Lib.hid (below_drewN w0.heap.size w0 1)
    have Hnf : RowKit.Hid (¬ From_ w0.heap.size bb) := Lib.hid (show ¬ w0.heap.size ≤ bb by have := HbB.out; have := Hsz.out; omega)
    have ld0 : ∀ w', Kept (From_ w0.heap.size) w0.drew w' → w'.cell? ⟨bb, off, none⟩ = some (.int .u8 (a0 : Int)) := fun w' h => h.cell (show w0.drew.cell? _ = _ from l0) Hnf.out
    have ld1 : ∀ w', Kept (From_ w0.heap.size) w0.drew w' → w'.cell? ⟨bb, off + 1, none⟩ = some (.int .u8 (a1 : Int)) := fun w' h => h.cell (show w0.drew.cell? _ = _ from l1) Hnf.out
    have ld2 : ∀ w', Kept (From_ w0.heap.size) w0.drew w' → w'.cell? ⟨bb, off + 2, none⟩ = some (.int .u8 (a2 : Int)) := fun w' h => h.cell (show w0.drew.cell? _ = _ from l2) Hnf.out
    have ld3 : ∀ w', Kept (From_ w0.heap.size) w0.drew w' → w'.cell? ⟨bb, off + 3, none⟩ = some (.int .u8 (a3 : Int)) := fun w' h => h.cell (show w0.drew.cell? _ = _ from l3) Hnf.out
    refine wp_region_reg (From_ w0.heap.size) (by kernel_rfl) ?_
    refine opR_ 0 12 (v := ?_) ?_ ?_; rotate_left
    · intro w' hw'; go_simp; (try with_reducible rfl)
    simp only [st0_, st1_]
    refine opR_ 1 13 (v := ?_) ?_ ?_; rotate_left
    · intro w' hw'; go_simp; (try with_reducible rfl)
    simp only [st0_, st1_]
    refine opR_ 2 14 (v := ?_) ?_ ?_; rotate_left
    · intro w' hw'; go_simp; (try with_reducible rfl)
    simp only [st0_, st1_]
    refine opR_ 3 15 (v := ?_) ?_ ?_; rotate_left
    · intro w' hw'; go_simp; (try with_reducible rfl)
    simp only [st0_, st1_]
    refine opR_ 4 16 (v := ?_) ?_ ?_; rotate_left
    · intro w' hw'; go_simp; (try with_reducible rfl)
    simp only [st0_, st1_]
    refine opR_ 5 17 (v := ?_) ?_ ?_; rotate_left
    · intro w' hw'; go_simp; (try with_reducible rfl)
    simp only [st0_, st1_]
    refine opR_ 6 18 (v := ?_) ?_ ?_; rotate_left
    · intro w' hw'; go_simp; (try with_reducible rfl)
    simp only [st0_, st1_]
    refine opR_ 7 19 (v := ?_) ?_ ?_; rotate_left
    · intro w' hw'; go_simp; (try with_reducible rfl)
    simp only [st0_, st1_]
    refine opR_ 8 20 (v := ?_) ?_ ?_; rotate_left
    · intro w' hw'; go_simp; (try with_reducible rfl)
    simp only [st0_, st1_]
    refine opR_ 9 21 (v := ?_) ?_ ?_; rotate_left
    · intro w' hw'; go_simp; (try with_reducible rfl)
    simp only [st0_, st1_]
    refine opR_ 10 22 (v := ?_) ?_ ?_; rotate_left
    · intro w' hw'; go_simp; (try with_reducible rfl)
    simp only [st0_, st1_]
    refine opR_ 11 23 (v := ?_) ?_ ?_; rotate_left
    · intro w' hw'; go_simp; (try with_reducible rfl)
    simp only [st0_, st1_]
    refine opR_ 12 24 (v := ?_) ?_ ?_; rotate_left
    · intro w' hw'; go_simp; (try with_reducible rfl)
    simp only [st0_, st1_]
    refine opR_ 13 25 (v := ?_) ?_ ?_; rotate_left
    · intro w' hw'; go_simp; (try with_reducible rfl)
    simp only [st0_, st1_]
    refine opR_ 14 26 (v := ?_) ?_ ?_; rotate_left
    · intro w' hw'; go_simp; (try with_reducible rfl)
    simp only [st0_, st1_]
    refine opR_ 15 27 (v := ?_) ?_ ?_; rotate_left
    · intro w' hw'; go_simp; (try with_reducible rfl)
    simp only [st0_, st1_]
    refine opR_ 16 28 (v := ?_) ?_ ?_; rotate_left
    · intro w' hw'; go_simp; (try with_reducible rfl)
    simp only [st0_, st1_]
    refine opR_ 17 29 (v := ?_) ?_ ?_; rotate_left
    · intro w' hw'; go_simp; (try with_reducible rfl)
    simp only [st0_, st1_]
    refine opR_ 18 30 (v := ?_) ?_ ?_; rotate_left
    · intro w' hw'; go_simp; (try with_reducible rfl)
    simp only [st0_, st1_]
    refine opR_ 19 31 (v := ?_) ?_ ?_; rotate_left
    · intro w' hw'; go_simp; (try with_reducible rfl)
    simp only [st0_, st1_]
    refine opR_ 20 32 (v := ?_) ?_ ?_; rotate_left
    · intro w' hw'; go_simp; (try with_reducible rfl)
    simp only [st0_, st1_]
    apply wpR_run 21 (some 5)
    · rfl
    · rfl
    · kernel_rfl
    · rfl
    intro w' hw'
    refine ⟨.pointer (some ⟨w'.heap.size, 0, none⟩), w'.alloc (.cells #[.int .i64 0, .int .i64 0] 47), by (go_simp; first | done | exact rfl | exact ⟨rfl, rfl⟩), Kept.of_below (below1 _ _), ?_⟩
    have HE3 : RowKit.Hid (Ext w0 (w'.alloc (.cells #[.int .i64 0, .int .i64 0] 47))) := Lib.hid (Ext.trans (Ext.trans HDr.out hw') (below1 w' _))
    have HZ3 : RowKit.Hid (Whole (w'.alloc (.cells #[.int .i64 0, .int .i64 0] 47)) w'.heap.size 47 [.int .i64 0, .int .i64 0]) := Lib.hid (Whole.new_ _ _ [_, _])
    have HL3 : RowKit.Hid (w0.heap.size ≤ w'.heap.size) := Lib.hid (Ext.trans HDr.out hw').size
    obtain ⟨wa, gwa⟩ : ∃ z, w'.alloc (.cells #[.int .i64 0, .int .i64 0] 47) = z := ⟨_, rfl⟩
    obtain ⟨g5, gg5⟩ : ∃ z, w'.heap.size = z := ⟨_, rfl⟩
    rw [gwa] at HE3 HZ3 ⊢
    rw [gg5] at HZ3 HL3 ⊢
    clear gwa gg5 hw' 
    simp only [Act.put, stA_, st0_, st1_]
    apply wpR_store 22
    · rfl
    · rfl
    · kernel_rfl
    · rfl
    intro w' hw'
    refine ⟨w'.setRow g5 #[.int .i64 s, .int .i64 k], store_row_run 47 (.tmp 5) (.tmp 32) rfl g5 rfl [.int .i64 s, .int .i64 k] rfl 47 [.int .i64 0, .int .i64 0] (HZ3.out.bl hw') (by kernel_rfl) rfl (by simp [Value.oneCell']), kept_row (show w0.heap.size ≤ g5 from HL3.out) _, ?_⟩
    have HN4 : RowKit.Hid (g5 ≠ b) := Lib.hid (by have := HL3.out; have := HX0.out.lt; omega)
    have HZ4 : RowKit.Hid (Whole (w'.setRow g5 #[.int .i64 s, .int .i64 k]) g5 47 [.int .i64 s, .int .i64 k]) := Lib.hid (Whole.row (HZ3.out.bl hw') [_, _])
    have HX4 : RowKit.Hid (Whole (w'.setRow g5 #[.int .i64 s, .int .i64 k]) b 47 [.int .i64 0, .int .i64 0]) := Lib.hid (Whole.row_far (HX0.out.bl (Ext.trans HE3.out hw')) (Ne.symm HN4.out) _)
    have HB4 : RowKit.Hid (Below w.heap.size w (w'.setRow g5 #[.int .i64 s, .int .i64 k])) := Lib.hid (below_row (Ext.trans (Ext.trans HE0.out HE3.out) hw') (by have := HL3.out; have := HE0.out.size; omega) _)
    obtain ⟨wb, gwb⟩ : ∃ z, w'.setRow g5 #[.int .i64 s, .int .i64 k] = z := ⟨_, rfl⟩
    rw [gwb] at HZ4 HX4 HB4 ⊢
    clear gwb hw' HE3 HZ3 HX0 HE0 HL3
    try simp only [Act.put, stA_, st0_, st1_]
    refine wpR_done (by kernel_rfl) ?_ _
    intro w8 hw8
    have HX8 := Lib.hid (HX4.out.bl hw8)
    have HZ8 := Lib.hid (HZ4.out.bl hw8)
    have HB8 := Lib.hid (bel_bl HB4.out hw8)
    clear hw8 HX4 HZ4 HB4 ld0 ld1 ld2 ld3 l0 l1 l2 l3 Hnf HbB HDr v0 v1 v2 v3 m1 m2 m3 m4 hn0 hn1 hn2 hn3
    have d0 := HZ8.out.cell (i := 0) rfl
    have d1 := HZ8.out.cell (i := 1) rfl
    cases my with
    | false =>
      go_upto_region 5 with (first
        | (go_at_call 82
           refine (HMy.out _).mono ?_
           rintro e w9 ⟨rfl, hb9⟩
           have HX9 := Lib.hid (HX8.out.bl hb9)
           have HB9 : RowKit.Hid (Below w.heap.size w w9) := Lib.hid (bel_bl HB8.out hb9)
           clear hb9 d0 d1))
      have q0 := HX9.out.cell (i := 0) rfl
      have q1 := HX9.out.cell (i := 1) rfl
      have f0 := HX9.out.free 0
      have f1 := HX9.out.free 1
      go_wp2
      have HXz := (HX9.out.set_ 0 (.int .i64 0)).set_ 1 (.int .i64 0)
      have HBz := (HB9.out.setCell (p := ⟨b, 0, none⟩) (by show w.heap.size ≤ b; exact Nat.le_of_eq Gb.out) (.int .i64 0)).setCell (p := ⟨b, 1, none⟩) (by show w.heap.size ≤ b; exact Nat.le_of_eq Gb.out) (.int .i64 0)
      exact ret_whole3 rfl b rfl rfl rfl HXz Try.underlying47 rfl (by kernel_rfl) rfl (by
        unfold GivesRI
        rw [HT.out]
        exact ⟨0, 0, some ⟨bb, off, none⟩, n, c, a0 :: a1 :: a2 :: a3 :: K, rfl, HR.out.up HBz HBz.size, ⟨0, rfl⟩, fun e => (by cases e), fun a' e => ⟨a', e, rfl⟩, HBz⟩)
    | true =>
      go_upto_region 7 with (first
        | (go_at_call 82
           refine (HMy.out _).mono ?_
           rintro e w9 ⟨rfl, hb9⟩
           have HX9 := Lib.hid (HX8.out.bl hb9)
           have HZ9 := Lib.hid (HZ8.out.bl hb9)
           have HB9 : RowKit.Hid (Below w.heap.size w w9) := Lib.hid (bel_bl HB8.out hb9)
           clear hb9 d0 d1))
      have HD9 : RowKit.Hid (Ext w9 w9.drew) := Lib.hid (below_drewN w9.heap.size w9 1)
      have ld0 : ∀ w', Kept (fun i => i = b) w9.drew w' → w'.cell? ⟨g5, 0, none⟩ = some (.int .i64 s) := fun w' h => h.cell (HZ9.out.dr.cell (i := 0) rfl) HN4.out
      have ld1 : ∀ w', Kept (fun i => i = b) w9.drew w' → w'.cell? ⟨g5, 1, none⟩ = some (.int .i64 k) := fun w' h => h.cell (HZ9.out.dr.cell (i := 1) rfl) HN4.out
      refine wp_region_reg (fun i => i = b) (by kernel_rfl) ?_
      refine opR_ 0 39 (v := ?_) ?_ ?_; rotate_left
      · intro w' hw'; go_simp; (try with_reducible rfl)
      simp only [st0_, st1_]
      refine opR_ 1 40 (v := ?_) ?_ ?_; rotate_left
      · intro w' hw'; go_simp; (try with_reducible rfl)
      simp only [st0_, st1_]
      refine opX_ 2 41 ?_
      apply Exists.intro
      apply And.intro
      · apply yr_run; rfl; intro w' hw'; exact exec_slice_low_as 23 5 (.tmp 40) (.const (.int .i64 4)) rfl Try.underlying23 (s := 1) (by kernel_rfl) rfl rfl Hm4.out.1 HAr.out Hm4.out.2 rfl
      simp only [st0_, st1_]
      apply wpR_store 3
      · rfl
      · rfl
      · kernel_rfl
      · rfl
      intro w' hw'
      refine ⟨w'.setRow b #[.int .i64 s, .int .i64 k], store_row_run 47 (.tmp 2) (.tmp 39) rfl b rfl [.int .i64 s, .int .i64 k] rfl 47 [.int .i64 0, .int .i64 0] (HX9.out.bl (Ext.trans HD9.out hw')) (by kernel_rfl) rfl (by simp [Value.oneCell']), kept_setRow (S := fun i => i = b) w' b rfl _, ?_⟩
      have HX10 : RowKit.Hid (Whole (w'.setRow b #[.int .i64 s, .int .i64 k]) b 47 [.int .i64 s, .int .i64 k]) := Lib.hid (Whole.row (HX9.out.bl (Ext.trans HD9.out hw')) [_, _])
      have HB10 : RowKit.Hid (Below w.heap.size w (w'.setRow b #[.int .i64 s, .int .i64 k])) := Lib.hid (below_row (bel_bl HB9.out (Ext.trans HD9.out hw')) (Nat.le_of_eq Gb.out) _)
      clear hw' 
      try simp only [Act.put, stA_, st0_, st1_]
      refine opR_ 4 3 (v := ?_) ?_ ?_; rotate_left
      · intro w' hw'; go_simp; (try with_reducible rfl)
      simp only [st0_, st1_]
      refine opR_ 5 4 (v := ?_) ?_ ?_; rotate_left
      · intro w' hw'; go_simp; (try with_reducible rfl)
      simp only [st0_, st1_]
      refine wpR_done (by kernel_rfl) ?_ _
      intro w11 hw11
      have HX11 := Lib.hid (HX10.out.bl hw11)
      have HB11 := Lib.hid (bel_bl HB10.out hw11)
      clear hw11
      go_wp2
      exact ret_whole3 rfl b rfl rfl rfl HX11.out Try.underlying47 rfl (by kernel_rfl) rfl (by
        unfold GivesRI
        rw [HT.out, HN.out]
        exact ⟨s, k, A1, r, c - 4, K, rfl, HLow.out.up HB11.out HB11.out.size, ⟨4, rfl⟩, fun _ => ⟨rfl, rfl⟩, lies_low HAr.out, HB11.out⟩)
end Go.Proofs.Ytinfbaflkjghhaa
/- The contracts of diagram.MayLabel and of the document's own. -/
namespace Go.Proofs.Ytinfbaflkjghhaa
open Go.RowKit
def okB (c : UInt8) : Bool := decide (32 ≤ c.toNat ∧ c.toNat ≤ 126)
/-- A label that may be. -/
def mayL (s : ByteArray) : Bool := decide (s.size ≤ 16) && s.data.toList.all okB
theorem takeB_snoc (s : ByteArray) (k : Nat) (h : k < s.size) : s.data.toList.take (k + 1) = s.data.toList.take k ++ [s[k]] := by
  rw [List.take_succ_eq_append_getElem (by simpa using h)]; rfl
theorem allB_step (s : ByteArray) (k : Nat) (h : k < s.size) (ha : (s.data.toList.take k).all okB = true) (hk : okB s[k] = true) : (s.data.toList.take (k + 1)).all okB = true := by
  rw [takeB_snoc s k h, List.all_append, ha]
  simp [hk]
theorem allB_not (s : ByteArray) (k : Nat) (h : k < s.size) (hk : okB s[k] = false) : s.data.toList.all okB = false := by
  rw [List.all_eq_false]
  refine ⟨s[k], ?_, by simp [hk]⟩
  show s.data[k] ∈ s.data.toList
  simp
theorem allB_all (s : ByteArray) (k : Nat) (h : s.size ≤ k) (ha : (s.data.toList.take k).all okB = true) : s.data.toList.all okB = true := by
  rwa [List.take_of_length_le (by simpa using h)] at ha
/-- The rune at a place: the byte itself where it is below 128; else one above 126. -/
theorem decode_is (s : ByteArray) (pos : Nat) (h : pos < s.size) : ∃ c wd, Utf8.decode s pos = (c, wd) ∧ 1 ≤ wd ∧ ((s[pos].toNat < 128 ∧ c = s[pos].toNat ∧ wd = 1) ∨ (128 ≤ s[pos].toNat ∧ 128 ≤ c)) := by
  by_cases ha : s[pos].toNat < 128
  · exact ⟨_, _, decode_ascii s pos h ha, Nat.le_refl _, .inl ⟨ha, rfl, rfl⟩⟩
  · have hh := decode_high s pos h (by omega)
    exact ⟨_, _, rfl, hh.2, .inr ⟨by omega, hh.1⟩⟩
theorem run_next_is (P : Program) (w : World) (s : ByteArray) (pos : Nat) (h : pos < s.size) {c wd : Nat} (hd : Utf8.decode s pos = (c, wd)) (ty : TypeId) :
    (Instr.next (.pointer (some ⟨w.heap.size, 0, none⟩)) true ty).run P (w.iter s pos) = .ok (.tuple #[.bool true, .int .i64 pos, .int .i32 c]) (w.iter s (pos + wd)) := by
  simp only [Instr.next, getObj, setObj, Sem.run_bind, Sem.run, World.iter_heap, Result.andThen, h, if_true, hd, World.iter_set]
  simp [goInt, Sem.run, World.iter_heap, World.iter_set]
set_option maxRecDepth 100000 in
theorem maylabel_any (s : ByteArray) : Pure 81 #[.string s] (.bool (mayL s)) := fun w => by
  by_cases h16 : s.size ≤ 16
  case neg =>
    have hr : mayL s = false := by simp [mayL, h16]
    have hq : decide ((16 : Int) < (s.size : Int)) = true := decide_eq_true (by omega)
    rw [hr]
    clear hr h16
    go_enter Try.func81, Try.ntmps81
    go_wp2
    go_ret
    exact ⟨rfl, Below.refl _ _⟩
  have hq : decide ((16 : Int) < (s.size : Int)) = false := decide_eq_false (by omega)
  have HS := Lib.hid h16
  clear h16
  go_enter Try.func81, Try.ntmps81
  go_wp2
  clear hq
  go_loopw [] (fun w' => ∃ pos : Nat, w' = w.iter s pos ∧ (s.data.toList.take pos).all okB = true) (fun w' => s.size - w'.iterPos w.heap.size)
  case atStart => exact ⟨0, rfl, by simp⟩
  case round =>
    obtain ⟨pos, rfl, ha⟩ := hrel
    have HA := Lib.hid ha
    clear ha
    by_cases hp : pos < s.size
    · obtain ⟨c, wd, hd, hwd, hc⟩ := decode_is s pos hp
      have hnx := fun ty => run_next_is Try.prog w s pos hp hd ty
      have HW := Lib.hid hwd
      clear hd hwd
      by_cases c1 : 32 ≤ c
      · by_cases c2 : c ≤ 126
        · have q1 : decide ((c : Int) < 32) = false := decide_eq_false (by omega)
          have q2 : decide ((126 : Int) < (c : Int)) = false := decide_eq_false (by omega)
          have HC1 := Lib.hid c1
          have HC2 := Lib.hid c2
          clear c1 c2
          have HC := Lib.hid hc
          have HP := Lib.hid hp
          clear hc
          go_wp2
          go_roundw
          case rel =>
            rcases HC.out with ⟨h1, rfl, rfl⟩ | ⟨h1, h2⟩
            · exact ⟨pos + 1, rfl, allB_step s pos hp HA.out (by have a := HC1.out; have b := HC2.out; simpa [okB] using ⟨a, b⟩)⟩
            · have := HC2.out
              omega
          case measure =>
            have a := hp
            have b := HW.out
            simp
            omega
        · have q1 : decide ((c : Int) < 32) = false := decide_eq_false (by omega)
          have q2 : decide ((126 : Int) < (c : Int)) = true := decide_eq_true (by omega)
          have hr : mayL s = false := by
            have : okB (s[pos]'hp) = false := by
              rcases hc with ⟨h1, h2, h3⟩ | ⟨h1, h2⟩
              · simp [okB]; omega
              · simp [okB]; omega
            simp [mayL, allB_not s pos hp this]
          have HR := Lib.hid hr
          clear c1 c2 hr
          go_wp2
          go_ret
          exact ⟨ret_bool HR.out.symm, below1 _ _⟩
      · have q1 : decide ((c : Int) < 32) = true := decide_eq_true (by omega)
        have hr : mayL s = false := by
          have : okB (s[pos]'hp) = false := by
            rcases hc with ⟨h1, h2, h3⟩ | ⟨h1, h2⟩
            · simp [okB]; omega
            · omega
          simp [mayL, allB_not s pos hp this]
        have HR := Lib.hid hr
        clear c1 hr
        go_wp2
        go_ret
        exact ⟨ret_bool HR.out.symm, below1 _ _⟩
    · have hr : mayL s = true := by simp [mayL, HS.out, allB_all s pos (by omega) HA.out]
      have hnx : ∀ ty, (Instr.next (.pointer (some ⟨w.heap.size, 0, none⟩)) true ty).run Try.prog (w.iter s pos) = _ := fun ty => run_next_end w s pos ty hp
      have HR := Lib.hid hr
      clear hp hr
      go_wp2
      go_ret
      exact ⟨ret_bool HR.out.symm, below1 _ _⟩
set_option maxRecDepth 100000 in
theorem rmaylabel_any (s : ByteArray) (hs : s.size ≤ maxLen) : Pure 86 #[.string s] (.bool (mayL s)) := fun w => by
  unfold maxLen at hs
  go_enter Try.func86, Try.ntmps86
  go_wp2
  go_loop [3] (fun i => ∃ k : Nat, k ≤ s.size ∧ i = .int .i64 k ∧ (s.data.toList.take k).all okB = true) (fun i => s.size - (intOf i).toNat)
  case atStart => exact ⟨0, Nat.zero_le _, rfl, by simp⟩
  case round =>
    obtain ⟨k, hk, rfl, ha⟩ := hrel
    have HA := Lib.hid ha
    clear ha
    by_cases hlt : k < s.size
    · obtain ⟨c, gc⟩ : ∃ c : UInt8, c = s[k] := ⟨_, rfl⟩
      have HGC := Lib.hid gc
      by_cases c1 : 32 ≤ c.toNat
      · by_cases c2 : c.toNat ≤ 126
        · have q1 : decide ((c.toNat : Int) < 32) = false := decide_eq_false (by omega)
          have q2 : decide ((126 : Int) < (c.toNat : Int)) = false := decide_eq_false (by omega)
          rw [gc] at q1 q2
          have HK : RowKit.Hid (okB c = true) := Lib.hid (by simp [okB]; omega)
          clear c1 c2 gc
          go_wp2
          go_round
          case rel => exact ⟨k + 1, by omega, by go_num, allB_step s k hlt HA.out (HGC.out ▸ HK.out)⟩
          case measure => simp [intOf]; omega
        · have q1 : decide ((c.toNat : Int) < 32) = false := decide_eq_false (by omega)
          have q2 : decide ((126 : Int) < (c.toNat : Int)) = true := decide_eq_true (by omega)
          rw [gc] at q1 q2
          have hr : mayL s = false := by
            have : okB (s[k]'hlt) = false := by rw [← gc]; simp [okB]; omega
            simp [mayL, allB_not s k hlt this]
          have HR := Lib.hid hr
          clear c1 c2 gc hr
          go_wp2
          go_ret
          exact ⟨ret_bool HR.out.symm, Below.refl _ _⟩
      · have q1 : decide ((c.toNat : Int) < 32) = true := decide_eq_true (by omega)
        rw [gc] at q1
        have hr : mayL s = false := by
          have : okB (s[k]'hlt) = false := by rw [← gc]; simp [okB]; omega
          simp [mayL, allB_not s k hlt this]
        have HR := Lib.hid hr
        clear c1 gc hr
        go_wp2
        go_ret
        exact ⟨ret_bool HR.out.symm, Below.refl _ _⟩
    · have hr : mayL s = decide (s.size ≤ 16) := by simp [mayL, allB_all s k (by omega) HA.out]
      by_cases h16 : s.size ≤ 16
      · rw [decide_eq_true h16] at hr
        have HR := Lib.hid hr
        have q : decide ((s.size : Int) ≤ 16) = true := decide_eq_true (by omega)
        clear hr h16
        go_wp2
        go_ret
        exact ⟨ret_bool HR.out.symm, Below.refl _ _⟩
      · rw [decide_eq_false h16] at hr
        have HR := Lib.hid hr
        have q : decide ((s.size : Int) ≤ 16) = false := decide_eq_false (by omega)
        clear hr h16
        go_wp2
        go_ret
        exact ⟨ret_bool HR.out.symm, Below.refl _ _⟩
end Go.Proofs.Ytinfbaflkjghhaa
/- The contract of op.May. -/
namespace Go.Proofs.Ytinfbaflkjghhaa
open Go.RowKit
/-- What is wrong with an operation. -/
def mayO (o : OpT) : Int := if mayI o.s o.n = true ∧ fitsO o = true ∧ o = onlyO o then (if mayL o.t = true then 0 else 4) else 1
theorem fits_op (o : OpT) : Pure 79 #[.agg (opCells o).toArray] (.bool (fitsO o)) := fun w => fits_at o.k o.s o.n o.s1 o.n1 o.s2 o.n2 o.a0 o.a1 o.a2 o.a3 o.a4 o.b0 o.b1 o.b2 o.b3 o.b4 o.e o.t o.m w
theorem only_op (o : OpT) : Pure 80 #[.agg (opCells o).toArray] (.agg (opCells (onlyO o)).toArray) := fun w => only_at o.k o.s o.n o.s1 o.n1 o.s2 o.n2 o.a0 o.a1 o.a2 o.a3 o.a4 o.b0 o.b1 o.b2 o.b3 o.b4 o.e o.t o.m w
set_option maxRecDepth 100000 in
set_option maxHeartbeats 2000000 in
theorem may_a (o : OpT) (h1 : mayI o.s o.n = false) (w : World) : Calls Try.prog 62 #[.agg (opCells o).toArray] w fun e w' => e = .returned (.int .i64 1) ∧ Below w.heap.size w w' := by
  have hm := may_any o.s o.n
  rw [h1] at hm
  have HM := Lib.hid hm
  clear hm h1
  go_enter Try.func62, Try.ntmps62
  go_upto_region 1 with fail
  obtain ⟨W1, gW1⟩ : ∃ x, w.alloc (.cells (opCells o).toArray 53) = x := ⟨_, rfl⟩
  have HO : RowKit.Hid (Whole W1 w.heap.size 53 (opCells o)) := Lib.hid (by rw [← gW1]; exact Whole.new_ w _ _)
  have HB : RowKit.Hid (Below w.heap.size w W1) := Lib.hid (by rw [← gW1]; exact below1 _ _)
  rw [gW1]
  clear gW1
  obtain ⟨g0, gg0⟩ : ∃ x, w.heap.size = x := ⟨_, rfl⟩
  rw [gg0] at HO ⊢
  clear gg0
  have ld1 : ∀ w', Kept Nil_ W1.drew w' → w'.cell? ⟨g0, 1, none⟩ = some (.int .i64 o.s) := fun w' h => h.nil_cell (HO.out.drew.cell (i := 1) rfl)
  have ld2 : ∀ w', Kept Nil_ W1.drew w' → w'.cell? ⟨g0, 2, none⟩ = some (.int .i64 o.n) := fun w' h => h.nil_cell (HO.out.drew.cell (i := 2) rfl)
  refine wp_region_reg (Nil_) (by kernel_rfl) ?_
  refine opR_ 0 3 (v := ?_) ?_ ?_; rotate_left
  · intro w' hw'; go_simp; (try with_reducible rfl)
  simp only [st0_, st1_]
  refine opR_ 1 4 (v := ?_) ?_ ?_; rotate_left
  · intro w' hw'; go_simp; (try with_reducible rfl)
  simp only [st0_, st1_]
  refine opX_ 2 5 ?_
  apply Exists.intro
  apply And.intro
  · apply yr_call; rfl; rotate_left; intro w' hw'; exact HM.out w'; intro w'; go_simp
  simp only [st0_, st1_]
  refine opR_ 3 6 (v := ?_) ?_ ?_; rotate_left
  · intro w' hw'; go_simp; (try with_reducible rfl)
  simp only [st0_, st1_]
  refine opR_ 4 7 (v := ?_) ?_ ?_; rotate_left
  · intro w' hw'; go_simp; (try with_reducible rfl)
  simp only [st0_, st1_]
  refine opX_ 5 8 ?_
  apply Exists.intro
  apply And.intro
  · exact yr_skip (by rfl)
  simp only [st0_, st1_]
  refine opX_ 6 9 ?_
  apply Exists.intro
  apply And.intro
  · exact yr_skip (by rfl)
  simp only [st0_, st1_]
  refine opX_ 7 10 ?_
  apply Exists.intro
  apply And.intro
  · exact yr_skip (by rfl)
  simp only [st0_, st1_]
  refine opR_ 8 11 (v := ?_) ?_ ?_; rotate_left
  · intro w' hw'; go_simp; (try with_reducible rfl)
  simp only [st0_, st1_]
  refine opR_ 9 12 (v := ?_) ?_ ?_; rotate_left
  · intro w' hw'; go_simp; (try with_reducible rfl)
  simp only [st0_, st1_]
  refine opX_ 10 13 ?_
  apply Exists.intro
  apply And.intro
  · exact yr_skip (by rfl)
  simp only [st0_, st1_]
  refine opX_ 11 14 ?_
  apply Exists.intro
  apply And.intro
  · exact yr_skip (by rfl)
  simp only [st0_, st1_]
  refine opX_ 12 15 ?_
  apply Exists.intro
  apply And.intro
  · exact yr_skip (by rfl)
  simp only [st0_, st1_]
  refine opX_ 13 16 ?_
  apply Exists.intro
  apply And.intro
  · exact yr_skip (by rfl)
  simp only [st0_, st1_]
  refine opR_ 14 17 (v := ?_) ?_ ?_; rotate_left
  · intro w' hw'; go_simp; (try with_reducible rfl)
  simp only [st0_, st1_]
  refine wpR_done (by kernel_rfl) ?_ _
  intro W2 hw2
  have HB2 : RowKit.Hid (Below w.heap.size w W2) := Lib.hid (HB.out.drew.trans (hw2.mono HB.out.drew.size))
  clear hw2 ld1 ld2
  go_wp2
  go_ret
  exact ⟨rfl, HB2.out⟩
set_option maxRecDepth 100000 in
set_option maxHeartbeats 2000000 in
theorem may_b (o : OpT) (h1 : mayI o.s o.n = true) (h2 : fitsO o = false) (w : World) : Calls Try.prog 62 #[.agg (opCells o).toArray] w fun e w' => e = .returned (.int .i64 1) ∧ Below w.heap.size w w' := by
  have hm := may_any o.s o.n
  rw [h1] at hm
  have HM := Lib.hid hm
  have hf := fits_op o
  rw [h2] at hf
  have HF := Lib.hid hf
  clear hm h1 hf h2
  go_enter Try.func62, Try.ntmps62
  go_upto_region 1 with fail
  obtain ⟨W1, gW1⟩ : ∃ x, w.alloc (.cells (opCells o).toArray 53) = x := ⟨_, rfl⟩
  have HO : RowKit.Hid (Whole W1 w.heap.size 53 (opCells o)) := Lib.hid (by rw [← gW1]; exact Whole.new_ w _ _)
  have HB : RowKit.Hid (Below w.heap.size w W1) := Lib.hid (by rw [← gW1]; exact below1 _ _)
  rw [gW1]
  clear gW1
  obtain ⟨g0, gg0⟩ : ∃ x, w.heap.size = x := ⟨_, rfl⟩
  rw [gg0] at HO ⊢
  clear gg0
  have ld1 : ∀ w', Kept Nil_ W1.drew w' → w'.cell? ⟨g0, 1, none⟩ = some (.int .i64 o.s) := fun w' h => h.nil_cell (HO.out.drew.cell (i := 1) rfl)
  have ld2 : ∀ w', Kept Nil_ W1.drew w' → w'.cell? ⟨g0, 2, none⟩ = some (.int .i64 o.n) := fun w' h => h.nil_cell (HO.out.drew.cell (i := 2) rfl)
  refine wp_region_reg (Nil_) (by kernel_rfl) ?_
  refine opR_ 0 3 (v := ?_) ?_ ?_; rotate_left
  · intro w' hw'; go_simp; (try with_reducible rfl)
  simp only [st0_, st1_]
  refine opR_ 1 4 (v := ?_) ?_ ?_; rotate_left
  · intro w' hw'; go_simp; (try with_reducible rfl)
  simp only [st0_, st1_]
  refine opX_ 2 5 ?_
  apply Exists.intro
  apply And.intro
  · apply yr_call; rfl; rotate_left; intro w' hw'; exact HM.out w'; intro w'; go_simp
  simp only [st0_, st1_]
  refine opR_ 3 6 (v := ?_) ?_ ?_; rotate_left
  · intro w' hw'; go_simp; (try with_reducible rfl)
  simp only [st0_, st1_]
  refine opR_ 4 7 (v := ?_) ?_ ?_; rotate_left
  · intro w' hw'; go_simp; (try with_reducible rfl)
  simp only [st0_, st1_]
  refine opX_ 5 8 ?_
  apply Exists.intro
  apply And.intro
  · exact yr_load (by rfl) 53 (.tmp 1) rfl g0 rfl 53 (opCells o) _ (fun w' h => h.whole HO.out.drew (fun h => h)) Try.underlying53 rfl (by kernel_rfl)
  simp only [st0_, st1_]
  refine opX_ 6 9 ?_
  apply Exists.intro
  apply And.intro
  · apply yr_call; rfl; rotate_left; intro w' hw'; exact HF.out w'; intro w'; go_simp
  simp only [st0_, st1_]
  refine opR_ 7 10 (v := ?_) ?_ ?_; rotate_left
  · intro w' hw'; go_simp; (try with_reducible rfl)
  simp only [st0_, st1_]
  refine opR_ 8 11 (v := ?_) ?_ ?_; rotate_left
  · intro w' hw'; go_simp; (try with_reducible rfl)
  simp only [st0_, st1_]
  refine opR_ 9 12 (v := ?_) ?_ ?_; rotate_left
  · intro w' hw'; go_simp; (try with_reducible rfl)
  simp only [st0_, st1_]
  refine opX_ 10 13 ?_
  apply Exists.intro
  apply And.intro
  · exact yr_skip (by rfl)
  simp only [st0_, st1_]
  refine opX_ 11 14 ?_
  apply Exists.intro
  apply And.intro
  · exact yr_skip (by rfl)
  simp only [st0_, st1_]
  refine opX_ 12 15 ?_
  apply Exists.intro
  apply And.intro
  · exact yr_skip (by rfl)
  simp only [st0_, st1_]
  refine opX_ 13 16 ?_
  apply Exists.intro
  apply And.intro
  · exact yr_skip (by rfl)
  simp only [st0_, st1_]
  refine opR_ 14 17 (v := ?_) ?_ ?_; rotate_left
  · intro w' hw'; go_simp; (try with_reducible rfl)
  simp only [st0_, st1_]
  refine wpR_done (by kernel_rfl) ?_ _
  intro W2 hw2
  have HB2 : RowKit.Hid (Below w.heap.size w W2) := Lib.hid (HB.out.drew.trans (hw2.mono HB.out.drew.size))
  clear hw2 ld1 ld2
  go_wp2
  go_ret
  exact ⟨rfl, HB2.out⟩
set_option maxRecDepth 100000 in
set_option maxHeartbeats 2000000 in
theorem may_c (o : OpT) (h1 : mayI o.s o.n = true) (h2 : fitsO o = true) (h3 : ¬ o = onlyO o) (w : World) : Calls Try.prog 62 #[.agg (opCells o).toArray] w fun e w' => e = .returned (.int .i64 1) ∧ Below w.heap.size w w' := by
  have hm := may_any o.s o.n
  rw [h1] at hm
  have HM := Lib.hid hm
  have hf := fits_op o
  rw [h2] at hf
  have HF := Lib.hid hf
  have HN := Lib.hid (only_op o)
  have hq := fun W => neq_op_run o (onlyO o) W
  rw [decide_eq_false h3] at hq
  have HQ := Lib.hid hq
  clear hm h1 hf h2 hq h3
  go_enter Try.func62, Try.ntmps62
  go_upto_region 1 with fail
  obtain ⟨W1, gW1⟩ : ∃ x, w.alloc (.cells (opCells o).toArray 53) = x := ⟨_, rfl⟩
  have HO : RowKit.Hid (Whole W1 w.heap.size 53 (opCells o)) := Lib.hid (by rw [← gW1]; exact Whole.new_ w _ _)
  have HB : RowKit.Hid (Below w.heap.size w W1) := Lib.hid (by rw [← gW1]; exact below1 _ _)
  rw [gW1]
  clear gW1
  obtain ⟨g0, gg0⟩ : ∃ x, w.heap.size = x := ⟨_, rfl⟩
  rw [gg0] at HO ⊢
  clear gg0
  have ld1 : ∀ w', Kept Nil_ W1.drew w' → w'.cell? ⟨g0, 1, none⟩ = some (.int .i64 o.s) := fun w' h => h.nil_cell (HO.out.drew.cell (i := 1) rfl)
  have ld2 : ∀ w', Kept Nil_ W1.drew w' → w'.cell? ⟨g0, 2, none⟩ = some (.int .i64 o.n) := fun w' h => h.nil_cell (HO.out.drew.cell (i := 2) rfl)
  refine wp_region_reg (Nil_) (by kernel_rfl) ?_
  refine opR_ 0 3 (v := ?_) ?_ ?_; rotate_left
  · intro w' hw'; go_simp; (try with_reducible rfl)
  simp only [st0_, st1_]
  refine opR_ 1 4 (v := ?_) ?_ ?_; rotate_left
  · intro w' hw'; go_simp; (try with_reducible rfl)
  simp only [st0_, st1_]
  refine opX_ 2 5 ?_
  apply Exists.intro
  apply And.intro
  · apply yr_call; rfl; rotate_left; intro w' hw'; exact HM.out w'; intro w'; go_simp
  simp only [st0_, st1_]
  refine opR_ 3 6 (v := ?_) ?_ ?_; rotate_left
  · intro w' hw'; go_simp; (try with_reducible rfl)
  simp only [st0_, st1_]
  refine opR_ 4 7 (v := ?_) ?_ ?_; rotate_left
  · intro w' hw'; go_simp; (try with_reducible rfl)
  simp only [st0_, st1_]
  refine opX_ 5 8 ?_
  apply Exists.intro
  apply And.intro
  · exact yr_load (by rfl) 53 (.tmp 1) rfl g0 rfl 53 (opCells o) _ (fun w' h => h.whole HO.out.drew (fun h => h)) Try.underlying53 rfl (by kernel_rfl)
  simp only [st0_, st1_]
  refine opX_ 6 9 ?_
  apply Exists.intro
  apply And.intro
  · apply yr_call; rfl; rotate_left; intro w' hw'; exact HF.out w'; intro w'; go_simp
  simp only [st0_, st1_]
  refine opR_ 7 10 (v := ?_) ?_ ?_; rotate_left
  · intro w' hw'; go_simp; (try with_reducible rfl)
  simp only [st0_, st1_]
  refine opR_ 8 11 (v := ?_) ?_ ?_; rotate_left
  · intro w' hw'; go_simp; (try with_reducible rfl)
  simp only [st0_, st1_]
  refine opR_ 9 12 (v := ?_) ?_ ?_; rotate_left
  · intro w' hw'; go_simp; (try with_reducible rfl)
  simp only [st0_, st1_]
  refine opX_ 10 13 ?_
  apply Exists.intro
  apply And.intro
  · exact yr_load (by rfl) 53 (.tmp 1) rfl g0 rfl 53 (opCells o) _ (fun w' h => h.whole HO.out.drew (fun h => h)) Try.underlying53 rfl (by kernel_rfl)
  simp only [st0_, st1_]
  refine opX_ 11 14 ?_
  apply Exists.intro
  apply And.intro
  · exact yr_load (by rfl) 53 (.tmp 1) rfl g0 rfl 53 (opCells o) _ (fun w' h => h.whole HO.out.drew (fun h => h)) Try.underlying53 rfl (by kernel_rfl)
  simp only [st0_, st1_]
  refine opX_ 12 15 ?_
  apply Exists.intro
  apply And.intro
  · apply yr_call; rfl; rotate_left; intro w' hw'; exact HN.out w'; intro w'; go_simp
  simp only [st0_, st1_]
  refine opX_ 13 16 ?_
  apply Exists.intro
  apply And.intro
  · exact yr_run (by rfl) (fun w' _ => exec_binop_agg .neq 53 (.tmp 13) (.tmp 15) 53 rfl rfl rfl (by kernel_rfl) (HQ.out w'))
  simp only [st0_, st1_]
  refine opR_ 14 17 (v := ?_) ?_ ?_; rotate_left
  · intro w' hw'; go_simp; (try with_reducible rfl)
  simp only [st0_, st1_]
  refine wpR_done (by kernel_rfl) ?_ _
  intro W2 hw2
  have HB2 : RowKit.Hid (Below w.heap.size w W2) := Lib.hid (HB.out.drew.trans (hw2.mono HB.out.drew.size))
  clear hw2 ld1 ld2
  go_wp2
  go_ret
  exact ⟨rfl, HB2.out⟩
set_option maxRecDepth 100000 in
set_option maxHeartbeats 2000000 in
theorem may_d (o : OpT) (h1 : mayI o.s o.n = true) (h2 : fitsO o = true) (h3 : o = onlyO o) (h4 : mayL o.t = false) (w : World) : Calls Try.prog 62 #[.agg (opCells o).toArray] w fun e w' => e = .returned (.int .i64 4) ∧ Below w.heap.size w w' := by
  have hm := may_any o.s o.n
  rw [h1] at hm
  have HM := Lib.hid hm
  have hf := fits_op o
  rw [h2] at hf
  have HF := Lib.hid hf
  have HN := Lib.hid (only_op o)
  have hq := fun W => neq_op_run o (onlyO o) W
  rw [decide_eq_true h3] at hq
  have HQ := Lib.hid hq
  clear hm h1 hf h2 hq h3
  have hl := maylabel_any o.t
  rw [h4] at hl
  have HL := Lib.hid hl
  clear hl h4
  go_enter Try.func62, Try.ntmps62
  go_upto_region 1 with fail
  obtain ⟨W1, gW1⟩ : ∃ x, w.alloc (.cells (opCells o).toArray 53) = x := ⟨_, rfl⟩
  have HO : RowKit.Hid (Whole W1 w.heap.size 53 (opCells o)) := Lib.hid (by rw [← gW1]; exact Whole.new_ w _ _)
  have HB : RowKit.Hid (Below w.heap.size w W1) := Lib.hid (by rw [← gW1]; exact below1 _ _)
  rw [gW1]
  clear gW1
  obtain ⟨g0, gg0⟩ : ∃ x, w.heap.size = x := ⟨_, rfl⟩
  rw [gg0] at HO ⊢
  clear gg0
  have ld1 : ∀ w', Kept Nil_ W1.drew w' → w'.cell? ⟨g0, 1, none⟩ = some (.int .i64 o.s) := fun w' h => h.nil_cell (HO.out.drew.cell (i := 1) rfl)
  have ld2 : ∀ w', Kept Nil_ W1.drew w' → w'.cell? ⟨g0, 2, none⟩ = some (.int .i64 o.n) := fun w' h => h.nil_cell (HO.out.drew.cell (i := 2) rfl)
  refine wp_region_reg (Nil_) (by kernel_rfl) ?_
  refine opR_ 0 3 (v := ?_) ?_ ?_; rotate_left
  · intro w' hw'; go_simp; (try with_reducible rfl)
  simp only [st0_, st1_]
  refine opR_ 1 4 (v := ?_) ?_ ?_; rotate_left
  · intro w' hw'; go_simp; (try with_reducible rfl)
  simp only [st0_, st1_]
  refine opX_ 2 5 ?_
  apply Exists.intro
  apply And.intro
  · apply yr_call; rfl; rotate_left; intro w' hw'; exact HM.out w'; intro w'; go_simp
  simp only [st0_, st1_]
  refine opR_ 3 6 (v := ?_) ?_ ?_; rotate_left
  · intro w' hw'; go_simp; (try with_reducible rfl)
  simp only [st0_, st1_]
  refine opR_ 4 7 (v := ?_) ?_ ?_; rotate_left
  · intro w' hw'; go_simp; (try with_reducible rfl)
  simp only [st0_, st1_]
  refine opX_ 5 8 ?_
  apply Exists.intro
  apply And.intro
  · exact yr_load (by rfl) 53 (.tmp 1) rfl g0 rfl 53 (opCells o) _ (fun w' h => h.whole HO.out.drew (fun h => h)) Try.underlying53 rfl (by kernel_rfl)
  simp only [st0_, st1_]
  refine opX_ 6 9 ?_
  apply Exists.intro
  apply And.intro
  · apply yr_call; rfl; rotate_left; intro w' hw'; exact HF.out w'; intro w'; go_simp
  simp only [st0_, st1_]
  refine opR_ 7 10 (v := ?_) ?_ ?_; rotate_left
  · intro w' hw'; go_simp; (try with_reducible rfl)
  simp only [st0_, st1_]
  refine opR_ 8 11 (v := ?_) ?_ ?_; rotate_left
  · intro w' hw'; go_simp; (try with_reducible rfl)
  simp only [st0_, st1_]
  refine opR_ 9 12 (v := ?_) ?_ ?_; rotate_left
  · intro w' hw'; go_simp; (try with_reducible rfl)
  simp only [st0_, st1_]
  refine opX_ 10 13 ?_
  apply Exists.intro
  apply And.intro
  · exact yr_load (by rfl) 53 (.tmp 1) rfl g0 rfl 53 (opCells o) _ (fun w' h => h.whole HO.out.drew (fun h => h)) Try.underlying53 rfl (by kernel_rfl)
  simp only [st0_, st1_]
  refine opX_ 11 14 ?_
  apply Exists.intro
  apply And.intro
  · exact yr_load (by rfl) 53 (.tmp 1) rfl g0 rfl 53 (opCells o) _ (fun w' h => h.whole HO.out.drew (fun h => h)) Try.underlying53 rfl (by kernel_rfl)
  simp only [st0_, st1_]
  refine opX_ 12 15 ?_
  apply Exists.intro
  apply And.intro
  · apply yr_call; rfl; rotate_left; intro w' hw'; exact HN.out w'; intro w'; go_simp
  simp only [st0_, st1_]
  refine opX_ 13 16 ?_
  apply Exists.intro
  apply And.intro
  · exact yr_run (by rfl) (fun w' _ => exec_binop_agg .neq 53 (.tmp 13) (.tmp 15) 53 rfl rfl rfl (by kernel_rfl) (HQ.out w'))
  simp only [st0_, st1_]
  refine opR_ 14 17 (v := ?_) ?_ ?_; rotate_left
  · intro w' hw'; go_simp; (try with_reducible rfl)
  simp only [st0_, st1_]
  refine wpR_done (by kernel_rfl) ?_ _
  intro W2 hw2
  have HB2 : RowKit.Hid (Below w.heap.size w W2) := Lib.hid (HB.out.drew.trans (hw2.mono HB.out.drew.size))
  have HO2 : RowKit.Hid (Whole W2 g0 53 (opCells o)) := Lib.hid (HO.out.drew.below hw2)
  have l18 := HO2.out.cell (i := 18) rfl
  clear hw2 ld1 ld2
  go_wp2_with (first | (go_at_call 81; refine (HL.out _).mono ?_; rintro e w3 ⟨rfl, hb3⟩))
  go_ret
  exact ⟨rfl, HB2.out.trans (hb3.mono HB2.out.size)⟩
set_option maxRecDepth 100000 in
set_option maxHeartbeats 2000000 in
theorem may_e (o : OpT) (h1 : mayI o.s o.n = true) (h2 : fitsO o = true) (h3 : o = onlyO o) (h4 : mayL o.t = true) (w : World) : Calls Try.prog 62 #[.agg (opCells o).toArray] w fun e w' => e = .returned (.int .i64 0) ∧ Below w.heap.size w w' := by
  have hm := may_any o.s o.n
  rw [h1] at hm
  have HM := Lib.hid hm
  have hf := fits_op o
  rw [h2] at hf
  have HF := Lib.hid hf
  have HN := Lib.hid (only_op o)
  have hq := fun W => neq_op_run o (onlyO o) W
  rw [decide_eq_true h3] at hq
  have HQ := Lib.hid hq
  clear hm h1 hf h2 hq h3
  have hl := maylabel_any o.t
  rw [h4] at hl
  have HL := Lib.hid hl
  clear hl h4
  go_enter Try.func62, Try.ntmps62
  go_upto_region 1 with fail
  obtain ⟨W1, gW1⟩ : ∃ x, w.alloc (.cells (opCells o).toArray 53) = x := ⟨_, rfl⟩
  have HO : RowKit.Hid (Whole W1 w.heap.size 53 (opCells o)) := Lib.hid (by rw [← gW1]; exact Whole.new_ w _ _)
  have HB : RowKit.Hid (Below w.heap.size w W1) := Lib.hid (by rw [← gW1]; exact below1 _ _)
  rw [gW1]
  clear gW1
  obtain ⟨g0, gg0⟩ : ∃ x, w.heap.size = x := ⟨_, rfl⟩
  rw [gg0] at HO ⊢
  clear gg0
  have ld1 : ∀ w', Kept Nil_ W1.drew w' → w'.cell? ⟨g0, 1, none⟩ = some (.int .i64 o.s) := fun w' h => h.nil_cell (HO.out.drew.cell (i := 1) rfl)
  have ld2 : ∀ w', Kept Nil_ W1.drew w' → w'.cell? ⟨g0, 2, none⟩ = some (.int .i64 o.n) := fun w' h => h.nil_cell (HO.out.drew.cell (i := 2) rfl)
  refine wp_region_reg (Nil_) (by kernel_rfl) ?_
  refine opR_ 0 3 (v := ?_) ?_ ?_; rotate_left
  · intro w' hw'; go_simp; (try with_reducible rfl)
  simp only [st0_, st1_]
  refine opR_ 1 4 (v := ?_) ?_ ?_; rotate_left
  · intro w' hw'; go_simp; (try with_reducible rfl)
  simp only [st0_, st1_]
  refine opX_ 2 5 ?_
  apply Exists.intro
  apply And.intro
  · apply yr_call; rfl; rotate_left; intro w' hw'; exact HM.out w'; intro w'; go_simp
  simp only [st0_, st1_]
  refine opR_ 3 6 (v := ?_) ?_ ?_; rotate_left
  · intro w' hw'; go_simp; (try with_reducible rfl)
  simp only [st0_, st1_]
  refine opR_ 4 7 (v := ?_) ?_ ?_; rotate_left
  · intro w' hw'; go_simp; (try with_reducible rfl)
  simp only [st0_, st1_]
  refine opX_ 5 8 ?_
  apply Exists.intro
  apply And.intro
  · exact yr_load (by rfl) 53 (.tmp 1) rfl g0 rfl 53 (opCells o) _ (fun w' h => h.whole HO.out.drew (fun h => h)) Try.underlying53 rfl (by kernel_rfl)
  simp only [st0_, st1_]
  refine opX_ 6 9 ?_
  apply Exists.intro
  apply And.intro
  · apply yr_call; rfl; rotate_left; intro w' hw'; exact HF.out w'; intro w'; go_simp
  simp only [st0_, st1_]
  refine opR_ 7 10 (v := ?_) ?_ ?_; rotate_left
  · intro w' hw'; go_simp; (try with_reducible rfl)
  simp only [st0_, st1_]
  refine opR_ 8 11 (v := ?_) ?_ ?_; rotate_left
  · intro w' hw'; go_simp; (try with_reducible rfl)
  simp only [st0_, st1_]
  refine opR_ 9 12 (v := ?_) ?_ ?_; rotate_left
  · intro w' hw'; go_simp; (try with_reducible rfl)
  simp only [st0_, st1_]
  refine opX_ 10 13 ?_
  apply Exists.intro
  apply And.intro
  · exact yr_load (by rfl) 53 (.tmp 1) rfl g0 rfl 53 (opCells o) _ (fun w' h => h.whole HO.out.drew (fun h => h)) Try.underlying53 rfl (by kernel_rfl)
  simp only [st0_, st1_]
  refine opX_ 11 14 ?_
  apply Exists.intro
  apply And.intro
  · exact yr_load (by rfl) 53 (.tmp 1) rfl g0 rfl 53 (opCells o) _ (fun w' h => h.whole HO.out.drew (fun h => h)) Try.underlying53 rfl (by kernel_rfl)
  simp only [st0_, st1_]
  refine opX_ 12 15 ?_
  apply Exists.intro
  apply And.intro
  · apply yr_call; rfl; rotate_left; intro w' hw'; exact HN.out w'; intro w'; go_simp
  simp only [st0_, st1_]
  refine opX_ 13 16 ?_
  apply Exists.intro
  apply And.intro
  · exact yr_run (by rfl) (fun w' _ => exec_binop_agg .neq 53 (.tmp 13) (.tmp 15) 53 rfl rfl rfl (by kernel_rfl) (HQ.out w'))
  simp only [st0_, st1_]
  refine opR_ 14 17 (v := ?_) ?_ ?_; rotate_left
  · intro w' hw'; go_simp; (try with_reducible rfl)
  simp only [st0_, st1_]
  refine wpR_done (by kernel_rfl) ?_ _
  intro W2 hw2
  have HB2 : RowKit.Hid (Below w.heap.size w W2) := Lib.hid (HB.out.drew.trans (hw2.mono HB.out.drew.size))
  have HO2 : RowKit.Hid (Whole W2 g0 53 (opCells o)) := Lib.hid (HO.out.drew.below hw2)
  have l18 := HO2.out.cell (i := 18) rfl
  clear hw2 ld1 ld2
  go_wp2_with (first | (go_at_call 81; refine (HL.out _).mono ?_; rintro e w3 ⟨rfl, hb3⟩))
  go_ret
  exact ⟨rfl, HB2.out.trans (hb3.mono HB2.out.size)⟩
theorem mayop_any (o : OpT) : Pure 62 #[.agg (opCells o).toArray] (.int .i64 (mayO o)) := fun w => by
  unfold mayO
  by_cases h1 : mayI o.s o.n = true
  case neg =>
    rw [if_neg (fun h => h1 h.1)]
    exact may_a o (by simpa using h1) w
  by_cases h2 : fitsO o = true
  case neg =>
    rw [if_neg (fun h => h2 h.2.1)]
    exact may_b o h1 (by simpa using h2) w
  by_cases h3 : o = onlyO o
  case neg =>
    rw [if_neg (fun h => h3 h.2.2)]
    exact may_c o h1 h2 h3 w
  rw [if_pos ⟨h1, h2, h3⟩]
  by_cases h4 : mayL o.t = true
  · rw [if_pos h4]
    exact may_e o h1 h2 h3 h4 w
  · rw [if_neg h4]
    exact may_d o h1 h2 h3 (by simpa using h4) w
end Go.Proofs.Ytinfbaflkjghhaa
/- The contract of the document's own rest. -/
namespace Go.Proofs.Ytinfbaflkjghhaa
open Go.RowKit Go.Great
/-- An operation without what its kind names. -/
def restO (o : OpT) : OpT :=
  if o.k = 3 then ⟨0, 0, 0, o.s1, o.n1, o.s2, o.n2, 0, 0, 0, 0, 0, 0, 0, 0, 0, 0, o.e, o.t, o.m⟩
  else if o.k = 5 then ⟨0, 0, 0, 0, 0, 0, 0, o.a0, o.a1, o.a2, o.a3, o.a4, o.b0, o.b1, o.b2, o.b3, o.b4, o.e, o.t, 0⟩
  else if o.k = 6 then ⟨0, 0, 0, o.s1, o.n1, 0, 0, o.a0, o.a1, o.a2, o.a3, o.a4, o.b0, o.b1, o.b2, o.b3, o.b4, o.e, o.t, o.m⟩
  else if o.k = 7 then ⟨0, 0, 0, o.s1, o.n1, o.s2, o.n2, o.a0, o.a1, o.a2, o.a3, o.a4, o.b0, o.b1, o.b2, o.b3, o.b4, false, ⟨#[]⟩, o.m⟩
  else if o.k = 8 then ⟨0, 0, 0, o.s1, o.n1, o.s2, o.n2, o.a0, o.a1, o.a2, o.a3, o.a4, o.b0, o.b1, o.b2, o.b3, o.b4, false, o.t, 0⟩
  else ⟨0, 0, 0, o.s1, o.n1, o.s2, o.n2, o.a0, o.a1, o.a2, o.a3, o.a4, o.b0, o.b1, o.b2, o.b3, o.b4, o.e, o.t, o.m⟩
set_option maxRecDepth 100000 in
set_option maxHeartbeats 2000000 in
theorem rest_0 (o : OpT) (q3 : (o.k == 3) = false) (q5 : (o.k == 5) = false) (q6 : (o.k == 6) = false) (q7 : (o.k == 7) = false) (q8 : (o.k == 8) = false) (w : World) : Calls Try.prog 83 #[.agg (opCells o).toArray] w fun e w' => e = .returned (.agg (opCells ⟨0, 0, 0, o.s1, o.n1, o.s2, o.n2, o.a0, o.a1, o.a2, o.a3, o.a4, o.b0, o.b1, o.b2, o.b3, o.b4, o.e, o.t, o.m⟩).toArray) ∧ Below w.heap.size w w' := by
  go_enter Try.func83, Try.ntmps83
  go_upto_region 1 with fail
  obtain ⟨W1, gW1⟩ : ∃ x, (w.alloc (.cells (opCells o).toArray 53)).alloc (.cells #[.int .i64 0, .int .i64 0, .int .i64 0, .int .i64 0, .int .i64 0, .int .i64 0, .int .i64 0, .int .i64 0, .int .i64 0, .int .i64 0, .int .i64 0, .int .i64 0, .int .i64 0, .int .i64 0, .int .i64 0, .int .i64 0, .int .i64 0, .bool false, .string ⟨#[]⟩, .int .i64 0] 53) = x := ⟨_, rfl⟩
  have HO : RowKit.Hid (Whole W1 w.heap.size 53 (opCells o)) := Lib.hid (by rw [← gW1]; exact (Whole.new_ w _ _).alloc _)
  have HR : RowKit.Hid (Whole W1 (w.heap.size + 1) 53 [.int .i64 0, .int .i64 0, .int .i64 0, .int .i64 0, .int .i64 0, .int .i64 0, .int .i64 0, .int .i64 0, .int .i64 0, .int .i64 0, .int .i64 0, .int .i64 0, .int .i64 0, .int .i64 0, .int .i64 0, .int .i64 0, .int .i64 0, .bool false, .string ⟨#[]⟩, .int .i64 0]) := Lib.hid (by rw [← gW1]; exact Whole.new2 (cs := [.int .i64 0, .int .i64 0, .int .i64 0, .int .i64 0, .int .i64 0, .int .i64 0, .int .i64 0, .int .i64 0, .int .i64 0, .int .i64 0, .int .i64 0, .int .i64 0, .int .i64 0, .int .i64 0, .int .i64 0, .int .i64 0, .int .i64 0, .bool false, .string ⟨#[]⟩, .int .i64 0]) (by simp))
  have HB : RowKit.Hid (Below w.heap.size w W1) := Lib.hid (by rw [← gW1]; exact below2 _ _ _)
  rw [gW1]
  clear gW1
  obtain ⟨g0, gg0⟩ : ∃ x, w.heap.size = x := ⟨_, rfl⟩
  rw [gg0] at HO HR ⊢
  have HG0 : RowKit.Hid (w.heap.size ≤ g0) := Lib.hid (by omega)
  clear gg0
  have l0 : W1.cell? ⟨g0, 0, none⟩ = some (.int .i64 o.k) := HO.out.cell (i := 0) rfl
  have z0 := HO.out.free 0
  have l1 : W1.cell? ⟨g0, 1, none⟩ = some (.int .i64 o.s) := HO.out.cell (i := 1) rfl
  have z1 := HO.out.free 1
  have l2 : W1.cell? ⟨g0, 2, none⟩ = some (.int .i64 o.n) := HO.out.cell (i := 2) rfl
  have z2 := HO.out.free 2
  go_upto_region 19 with fail
  clear l0 z0 l1 z1 l2 z2
  obtain ⟨W2, gW2⟩ : ∃ x, ((((((W1).setCell ⟨g0, 0, none⟩ (.int .i64 0))).setCell ⟨g0, 1, none⟩ (.int .i64 0))).setCell ⟨g0, 2, none⟩ (.int .i64 0)) = x := ⟨_, rfl⟩
  have HO2 : RowKit.Hid (Whole W2 g0 53 (opCells ⟨0, 0, 0, o.s1, o.n1, o.s2, o.n2, o.a0, o.a1, o.a2, o.a3, o.a4, o.b0, o.b1, o.b2, o.b3, o.b4, o.e, o.t, o.m⟩)) := Lib.hid (gW2 ▸ (((HO.out.set_ 0 _).set_ 1 _).set_ 2 _))
  have HR2 : RowKit.Hid (Whole W2 (g0 + 1) 53 [.int .i64 0, .int .i64 0, .int .i64 0, .int .i64 0, .int .i64 0, .int .i64 0, .int .i64 0, .int .i64 0, .int .i64 0, .int .i64 0, .int .i64 0, .int .i64 0, .int .i64 0, .int .i64 0, .int .i64 0, .int .i64 0, .int .i64 0, .bool false, .string ⟨#[]⟩, .int .i64 0]) := Lib.hid (gW2 ▸ (((HR.out.far (by show g0 + 1 ≠ g0; omega) _).far (by show g0 + 1 ≠ g0; omega) _).far (by show g0 + 1 ≠ g0; omega) _))
  have HB2 : RowKit.Hid (Below w.heap.size w W2) := Lib.hid (gW2 ▸ (((HB.out.setCell (by show w.heap.size ≤ g0; exact HG0.out) _).setCell (by show w.heap.size ≤ g0; exact HG0.out) _).setCell (by show w.heap.size ≤ g0; exact HG0.out) _))
  rw [gW2]
  clear gW2
  refine wp_region_lit ?_
  refine wpList_load_row rfl 53 (.tmp 1) rfl g0 rfl 53 (opCells ⟨0, 0, 0, o.s1, o.n1, o.s2, o.n2, o.a0, o.a1, o.a2, o.a3, o.a4, o.b0, o.b1, o.b2, o.b3, o.b4, o.e, o.t, o.m⟩).toArray (0, 0) _ HO2.out Try.underlying53 rfl (by kernel_rfl) ?_
  simp only [Act.put, stA_, st0_, st1_]
  refine wpList_store_row rfl 53 (.tmp 2) (.tmp 33) rfl (g0 + 1) (opCells ⟨0, 0, 0, o.s1, o.n1, o.s2, o.n2, o.a0, o.a1, o.a2, o.a3, o.a4, o.b0, o.b1, o.b2, o.b3, o.b4, o.e, o.t, o.m⟩).toArray rfl rfl 53 #[.int .i64 0, .int .i64 0, .int .i64 0, .int .i64 0, .int .i64 0, .int .i64 0, .int .i64 0, .int .i64 0, .int .i64 0, .int .i64 0, .int .i64 0, .int .i64 0, .int .i64 0, .int .i64 0, .int .i64 0, .int .i64 0, .int .i64 0, .bool false, .string ⟨#[]⟩, .int .i64 0] HR2.out (by kernel_rfl) rfl (by simp [opCells, Value.oneCell']) ?_
  have HR3 : RowKit.Hid (Whole (W2.setRow (g0 + 1) (opCells ⟨0, 0, 0, o.s1, o.n1, o.s2, o.n2, o.a0, o.a1, o.a2, o.a3, o.a4, o.b0, o.b1, o.b2, o.b3, o.b4, o.e, o.t, o.m⟩).toArray) (g0 + 1) 53 (opCells ⟨0, 0, 0, o.s1, o.n1, o.s2, o.n2, o.a0, o.a1, o.a2, o.a3, o.a4, o.b0, o.b1, o.b2, o.b3, o.b4, o.e, o.t, o.m⟩)) := Lib.hid (setRow_heap W2 (g0 + 1) _ _ _ _ HR2.out)
  have HB3 : RowKit.Hid (Below w.heap.size w (W2.setRow (g0 + 1) (opCells ⟨0, 0, 0, o.s1, o.n1, o.s2, o.n2, o.a0, o.a1, o.a2, o.a3, o.a4, o.b0, o.b1, o.b2, o.b3, o.b4, o.e, o.t, o.m⟩).toArray)) := Lib.hid ⟨HB2.out.os, HB2.out.tape, HB2.out.output, (by have := HB2.out.size; simpa [World.setRow] using this), fun i hi => (setRow_other W2 (g0 + 1) i _ (by have := HG0.out; omega)).trans (HB2.out.block i hi)⟩
  obtain ⟨W3, gW3⟩ : ∃ x, W2.setRow (g0 + 1) (opCells ⟨0, 0, 0, o.s1, o.n1, o.s2, o.n2, o.a0, o.a1, o.a2, o.a3, o.a4, o.b0, o.b1, o.b2, o.b3, o.b4, o.e, o.t, o.m⟩).toArray = x := ⟨_, rfl⟩
  rw [gW3] at HR3 HB3 ⊢
  clear gW3
  go_wp2
  exact bodyPost_ret (v := .agg (opCells ⟨0, 0, 0, o.s1, o.n1, o.s2, o.n2, o.a0, o.a1, o.a2, o.a3, o.a4, o.b0, o.b1, o.b2, o.b3, o.b4, o.e, o.t, o.m⟩).toArray) (results_cell_row Try.results83 _ W3 (g0 + 1) 53 (opCells ⟨0, 0, 0, o.s1, o.n1, o.s2, o.n2, o.a0, o.a1, o.a2, o.a3, o.a4, o.b0, o.b1, o.b2, o.b3, o.b4, o.e, o.t, o.m⟩).toArray (0, 0) _ (by rfl) HR3.out Try.underlying53 rfl (by kernel_rfl)) rfl ⟨rfl, HB3.out⟩
set_option maxRecDepth 100000 in
set_option maxHeartbeats 2000000 in
theorem rest_3 (o : OpT) (hk : o.k = 3) (w : World) : Calls Try.prog 83 #[.agg (opCells o).toArray] w fun e w' => e = .returned (.agg (opCells ⟨0, 0, 0, o.s1, o.n1, o.s2, o.n2, 0, 0, 0, 0, 0, 0, 0, 0, 0, 0, o.e, o.t, o.m⟩).toArray) ∧ Below w.heap.size w w' := by
  obtain ⟨k, s, n, s1, n1, s2, n2, a0, a1, a2, a3, a4, b0, b1, b2, b3, b4, e, t, m⟩ := o
  obtain rfl : k = 3 := hk
  obtain ⟨o, go⟩ : ∃ o : OpT, o = ⟨3, s, n, s1, n1, s2, n2, a0, a1, a2, a3, a4, b0, b1, b2, b3, b4, e, t, m⟩ := ⟨_, rfl⟩
  have q : o.k = 3 := by rw [go]
  rw [show (⟨0, 0, 0, s1, n1, s2, n2, 0, 0, 0, 0, 0, 0, 0, 0, 0, 0, e, t, m⟩ : OpT) = ⟨0, 0, 0, o.s1, o.n1, o.s2, o.n2, 0, 0, 0, 0, 0, 0, 0, 0, 0, 0, o.e, o.t, o.m⟩ from by rw [go]]
  rw [← go]
  clear go
  go_enter Try.func83, Try.ntmps83
  go_upto_region 1 with fail
  obtain ⟨W1, gW1⟩ : ∃ x, (w.alloc (.cells (opCells o).toArray 53)).alloc (.cells #[.int .i64 0, .int .i64 0, .int .i64 0, .int .i64 0, .int .i64 0, .int .i64 0, .int .i64 0, .int .i64 0, .int .i64 0, .int .i64 0, .int .i64 0, .int .i64 0, .int .i64 0, .int .i64 0, .int .i64 0, .int .i64 0, .int .i64 0, .bool false, .string ⟨#[]⟩, .int .i64 0] 53) = x := ⟨_, rfl⟩
  have HO : RowKit.Hid (Whole W1 w.heap.size 53 (opCells o)) := Lib.hid (by rw [← gW1]; exact (Whole.new_ w _ _).alloc _)
  have HR : RowKit.Hid (Whole W1 (w.heap.size + 1) 53 [.int .i64 0, .int .i64 0, .int .i64 0, .int .i64 0, .int .i64 0, .int .i64 0, .int .i64 0, .int .i64 0, .int .i64 0, .int .i64 0, .int .i64 0, .int .i64 0, .int .i64 0, .int .i64 0, .int .i64 0, .int .i64 0, .int .i64 0, .bool false, .string ⟨#[]⟩, .int .i64 0]) := Lib.hid (by rw [← gW1]; exact Whole.new2 (cs := [.int .i64 0, .int .i64 0, .int .i64 0, .int .i64 0, .int .i64 0, .int .i64 0, .int .i64 0, .int .i64 0, .int .i64 0, .int .i64 0, .int .i64 0, .int .i64 0, .int .i64 0, .int .i64 0, .int .i64 0, .int .i64 0, .int .i64 0, .bool false, .string ⟨#[]⟩, .int .i64 0]) (by simp))
  have HB : RowKit.Hid (Below w.heap.size w W1) := Lib.hid (by rw [← gW1]; exact below2 _ _ _)
  rw [gW1]
  clear gW1
  obtain ⟨g0, gg0⟩ : ∃ x, w.heap.size = x := ⟨_, rfl⟩
  rw [gg0] at HO HR ⊢
  have HG0 : RowKit.Hid (w.heap.size ≤ g0) := Lib.hid (by omega)
  clear gg0
  have l7 : W1.cell? ⟨g0, 7, none⟩ = some (.int .i64 o.a0) := HO.out.cell (i := 7) rfl
  have z7 := HO.out.free 7
  have l8 : W1.cell? ⟨g0, 8, none⟩ = some (.int .i64 o.a1) := HO.out.cell (i := 8) rfl
  have z8 := HO.out.free 8
  have l9 : W1.cell? ⟨g0, 9, none⟩ = some (.int .i64 o.a2) := HO.out.cell (i := 9) rfl
  have z9 := HO.out.free 9
  have l10 : W1.cell? ⟨g0, 10, none⟩ = some (.int .i64 o.a3) := HO.out.cell (i := 10) rfl
  have z10 := HO.out.free 10
  have l11 : W1.cell? ⟨g0, 11, none⟩ = some (.int .i64 o.a4) := HO.out.cell (i := 11) rfl
  have z11 := HO.out.free 11
  have l12 : W1.cell? ⟨g0, 12, none⟩ = some (.int .i64 o.b0) := HO.out.cell (i := 12) rfl
  have z12 := HO.out.free 12
  have l13 : W1.cell? ⟨g0, 13, none⟩ = some (.int .i64 o.b1) := HO.out.cell (i := 13) rfl
  have z13 := HO.out.free 13
  have l14 : W1.cell? ⟨g0, 14, none⟩ = some (.int .i64 o.b2) := HO.out.cell (i := 14) rfl
  have z14 := HO.out.free 14
  have l15 : W1.cell? ⟨g0, 15, none⟩ = some (.int .i64 o.b3) := HO.out.cell (i := 15) rfl
  have z15 := HO.out.free 15
  have l16 : W1.cell? ⟨g0, 16, none⟩ = some (.int .i64 o.b4) := HO.out.cell (i := 16) rfl
  have z16 := HO.out.free 16
  have l0 : W1.cell? ⟨g0, 0, none⟩ = some (.int .i64 o.k) := HO.out.cell (i := 0) rfl
  have z0 := HO.out.free 0
  have l1 : W1.cell? ⟨g0, 1, none⟩ = some (.int .i64 o.s) := HO.out.cell (i := 1) rfl
  have z1 := HO.out.free 1
  have l2 : W1.cell? ⟨g0, 2, none⟩ = some (.int .i64 o.n) := HO.out.cell (i := 2) rfl
  have z2 := HO.out.free 2
  go_upto_region 19 with fail
  clear l7 z7 l8 z8 l9 z9 l10 z10 l11 z11 l12 z12 l13 z13 l14 z14 l15 z15 l16 z16 l0 z0 l1 z1 l2 z2
  obtain ⟨W2, gW2⟩ : ∃ x, ((((((((((((((((((((((((((W1).setCell ⟨g0, 7, none⟩ (.int .i64 0))).setCell ⟨g0, 8, none⟩ (.int .i64 0))).setCell ⟨g0, 9, none⟩ (.int .i64 0))).setCell ⟨g0, 10, none⟩ (.int .i64 0))).setCell ⟨g0, 11, none⟩ (.int .i64 0))).setCell ⟨g0, 12, none⟩ (.int .i64 0))).setCell ⟨g0, 13, none⟩ (.int .i64 0))).setCell ⟨g0, 14, none⟩ (.int .i64 0))).setCell ⟨g0, 15, none⟩ (.int .i64 0))).setCell ⟨g0, 16, none⟩ (.int .i64 0))).setCell ⟨g0, 0, none⟩ (.int .i64 0))).setCell ⟨g0, 1, none⟩ (.int .i64 0))).setCell ⟨g0, 2, none⟩ (.int .i64 0)) = x := ⟨_, rfl⟩
  have HO2 : RowKit.Hid (Whole W2 g0 53 (opCells ⟨0, 0, 0, o.s1, o.n1, o.s2, o.n2, 0, 0, 0, 0, 0, 0, 0, 0, 0, 0, o.e, o.t, o.m⟩)) := Lib.hid (gW2 ▸ (((((((((((((HO.out.set_ 7 _).set_ 8 _).set_ 9 _).set_ 10 _).set_ 11 _).set_ 12 _).set_ 13 _).set_ 14 _).set_ 15 _).set_ 16 _).set_ 0 _).set_ 1 _).set_ 2 _))
  have HR2 : RowKit.Hid (Whole W2 (g0 + 1) 53 [.int .i64 0, .int .i64 0, .int .i64 0, .int .i64 0, .int .i64 0, .int .i64 0, .int .i64 0, .int .i64 0, .int .i64 0, .int .i64 0, .int .i64 0, .int .i64 0, .int .i64 0, .int .i64 0, .int .i64 0, .int .i64 0, .int .i64 0, .bool false, .string ⟨#[]⟩, .int .i64 0]) := Lib.hid (gW2 ▸ (((((((((((((HR.out.far (by show g0 + 1 ≠ g0; omega) _).far (by show g0 + 1 ≠ g0; omega) _).far (by show g0 + 1 ≠ g0; omega) _).far (by show g0 + 1 ≠ g0; omega) _).far (by show g0 + 1 ≠ g0; omega) _).far (by show g0 + 1 ≠ g0; omega) _).far (by show g0 + 1 ≠ g0; omega) _).far (by show g0 + 1 ≠ g0; omega) _).far (by show g0 + 1 ≠ g0; omega) _).far (by show g0 + 1 ≠ g0; omega) _).far (by show g0 + 1 ≠ g0; omega) _).far (by show g0 + 1 ≠ g0; omega) _).far (by show g0 + 1 ≠ g0; omega) _))
  have HB2 : RowKit.Hid (Below w.heap.size w W2) := Lib.hid (gW2 ▸ (((((((((((((HB.out.setCell (by show w.heap.size ≤ g0; exact HG0.out) _).setCell (by show w.heap.size ≤ g0; exact HG0.out) _).setCell (by show w.heap.size ≤ g0; exact HG0.out) _).setCell (by show w.heap.size ≤ g0; exact HG0.out) _).setCell (by show w.heap.size ≤ g0; exact HG0.out) _).setCell (by show w.heap.size ≤ g0; exact HG0.out) _).setCell (by show w.heap.size ≤ g0; exact HG0.out) _).setCell (by show w.heap.size ≤ g0; exact HG0.out) _).setCell (by show w.heap.size ≤ g0; exact HG0.out) _).setCell (by show w.heap.size ≤ g0; exact HG0.out) _).setCell (by show w.heap.size ≤ g0; exact HG0.out) _).setCell (by show w.heap.size ≤ g0; exact HG0.out) _).setCell (by show w.heap.size ≤ g0; exact HG0.out) _))
  rw [gW2]
  clear gW2
  refine wp_region_lit ?_
  refine wpList_load_row rfl 53 (.tmp 1) rfl g0 rfl 53 (opCells ⟨0, 0, 0, o.s1, o.n1, o.s2, o.n2, 0, 0, 0, 0, 0, 0, 0, 0, 0, 0, o.e, o.t, o.m⟩).toArray (0, 0) _ HO2.out Try.underlying53 rfl (by kernel_rfl) ?_
  simp only [Act.put, stA_, st0_, st1_]
  refine wpList_store_row rfl 53 (.tmp 2) (.tmp 33) rfl (g0 + 1) (opCells ⟨0, 0, 0, o.s1, o.n1, o.s2, o.n2, 0, 0, 0, 0, 0, 0, 0, 0, 0, 0, o.e, o.t, o.m⟩).toArray rfl rfl 53 #[.int .i64 0, .int .i64 0, .int .i64 0, .int .i64 0, .int .i64 0, .int .i64 0, .int .i64 0, .int .i64 0, .int .i64 0, .int .i64 0, .int .i64 0, .int .i64 0, .int .i64 0, .int .i64 0, .int .i64 0, .int .i64 0, .int .i64 0, .bool false, .string ⟨#[]⟩, .int .i64 0] HR2.out (by kernel_rfl) rfl (by simp [opCells, Value.oneCell']) ?_
  have HR3 : RowKit.Hid (Whole (W2.setRow (g0 + 1) (opCells ⟨0, 0, 0, o.s1, o.n1, o.s2, o.n2, 0, 0, 0, 0, 0, 0, 0, 0, 0, 0, o.e, o.t, o.m⟩).toArray) (g0 + 1) 53 (opCells ⟨0, 0, 0, o.s1, o.n1, o.s2, o.n2, 0, 0, 0, 0, 0, 0, 0, 0, 0, 0, o.e, o.t, o.m⟩)) := Lib.hid (setRow_heap W2 (g0 + 1) _ _ _ _ HR2.out)
  have HB3 : RowKit.Hid (Below w.heap.size w (W2.setRow (g0 + 1) (opCells ⟨0, 0, 0, o.s1, o.n1, o.s2, o.n2, 0, 0, 0, 0, 0, 0, 0, 0, 0, 0, o.e, o.t, o.m⟩).toArray)) := Lib.hid ⟨HB2.out.os, HB2.out.tape, HB2.out.output, (by have := HB2.out.size; simpa [World.setRow] using this), fun i hi => (setRow_other W2 (g0 + 1) i _ (by have := HG0.out; omega)).trans (HB2.out.block i hi)⟩
  obtain ⟨W3, gW3⟩ : ∃ x, W2.setRow (g0 + 1) (opCells ⟨0, 0, 0, o.s1, o.n1, o.s2, o.n2, 0, 0, 0, 0, 0, 0, 0, 0, 0, 0, o.e, o.t, o.m⟩).toArray = x := ⟨_, rfl⟩
  rw [gW3] at HR3 HB3 ⊢
  clear gW3
  go_wp2
  exact bodyPost_ret (v := .agg (opCells ⟨0, 0, 0, o.s1, o.n1, o.s2, o.n2, 0, 0, 0, 0, 0, 0, 0, 0, 0, 0, o.e, o.t, o.m⟩).toArray) (results_cell_row Try.results83 _ W3 (g0 + 1) 53 (opCells ⟨0, 0, 0, o.s1, o.n1, o.s2, o.n2, 0, 0, 0, 0, 0, 0, 0, 0, 0, 0, o.e, o.t, o.m⟩).toArray (0, 0) _ (by rfl) HR3.out Try.underlying53 rfl (by kernel_rfl)) rfl ⟨rfl, HB3.out⟩
set_option maxRecDepth 100000 in
set_option maxHeartbeats 2000000 in
theorem rest_5 (o : OpT) (hk : o.k = 5) (w : World) : Calls Try.prog 83 #[.agg (opCells o).toArray] w fun e w' => e = .returned (.agg (opCells ⟨0, 0, 0, 0, 0, 0, 0, o.a0, o.a1, o.a2, o.a3, o.a4, o.b0, o.b1, o.b2, o.b3, o.b4, o.e, o.t, 0⟩).toArray) ∧ Below w.heap.size w w' := by
  obtain ⟨k, s, n, s1, n1, s2, n2, a0, a1, a2, a3, a4, b0, b1, b2, b3, b4, e, t, m⟩ := o
  obtain rfl : k = 5 := hk
  obtain ⟨o, go⟩ : ∃ o : OpT, o = ⟨5, s, n, s1, n1, s2, n2, a0, a1, a2, a3, a4, b0, b1, b2, b3, b4, e, t, m⟩ := ⟨_, rfl⟩
  have q : o.k = 5 := by rw [go]
  rw [show (⟨0, 0, 0, 0, 0, 0, 0, a0, a1, a2, a3, a4, b0, b1, b2, b3, b4, e, t, 0⟩ : OpT) = ⟨0, 0, 0, 0, 0, 0, 0, o.a0, o.a1, o.a2, o.a3, o.a4, o.b0, o.b1, o.b2, o.b3, o.b4, o.e, o.t, 0⟩ from by rw [go]]
  rw [← go]
  clear go
  go_enter Try.func83, Try.ntmps83
  go_upto_region 1 with fail
  obtain ⟨W1, gW1⟩ : ∃ x, (w.alloc (.cells (opCells o).toArray 53)).alloc (.cells #[.int .i64 0, .int .i64 0, .int .i64 0, .int .i64 0, .int .i64 0, .int .i64 0, .int .i64 0, .int .i64 0, .int .i64 0, .int .i64 0, .int .i64 0, .int .i64 0, .int .i64 0, .int .i64 0, .int .i64 0, .int .i64 0, .int .i64 0, .bool false, .string ⟨#[]⟩, .int .i64 0] 53) = x := ⟨_, rfl⟩
  have HO : RowKit.Hid (Whole W1 w.heap.size 53 (opCells o)) := Lib.hid (by rw [← gW1]; exact (Whole.new_ w _ _).alloc _)
  have HR : RowKit.Hid (Whole W1 (w.heap.size + 1) 53 [.int .i64 0, .int .i64 0, .int .i64 0, .int .i64 0, .int .i64 0, .int .i64 0, .int .i64 0, .int .i64 0, .int .i64 0, .int .i64 0, .int .i64 0, .int .i64 0, .int .i64 0, .int .i64 0, .int .i64 0, .int .i64 0, .int .i64 0, .bool false, .string ⟨#[]⟩, .int .i64 0]) := Lib.hid (by rw [← gW1]; exact Whole.new2 (cs := [.int .i64 0, .int .i64 0, .int .i64 0, .int .i64 0, .int .i64 0, .int .i64 0, .int .i64 0, .int .i64 0, .int .i64 0, .int .i64 0, .int .i64 0, .int .i64 0, .int .i64 0, .int .i64 0, .int .i64 0, .int .i64 0, .int .i64 0, .bool false, .string ⟨#[]⟩, .int .i64 0]) (by simp))
  have HB : RowKit.Hid (Below w.heap.size w W1) := Lib.hid (by rw [← gW1]; exact below2 _ _ _)
  rw [gW1]
  clear gW1
  obtain ⟨g0, gg0⟩ : ∃ x, w.heap.size = x := ⟨_, rfl⟩
  rw [gg0] at HO HR ⊢
  have HG0 : RowKit.Hid (w.heap.size ≤ g0) := Lib.hid (by omega)
  clear gg0
  have l3 : W1.cell? ⟨g0, 3, none⟩ = some (.int .i64 o.s1) := HO.out.cell (i := 3) rfl
  have z3 := HO.out.free 3
  have l4 : W1.cell? ⟨g0, 4, none⟩ = some (.int .i64 o.n1) := HO.out.cell (i := 4) rfl
  have z4 := HO.out.free 4
  have l5 : W1.cell? ⟨g0, 5, none⟩ = some (.int .i64 o.s2) := HO.out.cell (i := 5) rfl
  have z5 := HO.out.free 5
  have l6 : W1.cell? ⟨g0, 6, none⟩ = some (.int .i64 o.n2) := HO.out.cell (i := 6) rfl
  have z6 := HO.out.free 6
  have l19 : W1.cell? ⟨g0, 19, none⟩ = some (.int .i64 o.m) := HO.out.cell (i := 19) rfl
  have z19 := HO.out.free 19
  have l0 : W1.cell? ⟨g0, 0, none⟩ = some (.int .i64 o.k) := HO.out.cell (i := 0) rfl
  have z0 := HO.out.free 0
  have l1 : W1.cell? ⟨g0, 1, none⟩ = some (.int .i64 o.s) := HO.out.cell (i := 1) rfl
  have z1 := HO.out.free 1
  have l2 : W1.cell? ⟨g0, 2, none⟩ = some (.int .i64 o.n) := HO.out.cell (i := 2) rfl
  have z2 := HO.out.free 2
  go_upto_region 19 with fail
  clear l3 z3 l4 z4 l5 z5 l6 z6 l19 z19 l0 z0 l1 z1 l2 z2
  obtain ⟨W2, gW2⟩ : ∃ x, ((((((((((((((((W1).setCell ⟨g0, 3, none⟩ (.int .i64 0))).setCell ⟨g0, 4, none⟩ (.int .i64 0))).setCell ⟨g0, 5, none⟩ (.int .i64 0))).setCell ⟨g0, 6, none⟩ (.int .i64 0))).setCell ⟨g0, 19, none⟩ (.int .i64 0))).setCell ⟨g0, 0, none⟩ (.int .i64 0))).setCell ⟨g0, 1, none⟩ (.int .i64 0))).setCell ⟨g0, 2, none⟩ (.int .i64 0)) = x := ⟨_, rfl⟩
  have HO2 : RowKit.Hid (Whole W2 g0 53 (opCells ⟨0, 0, 0, 0, 0, 0, 0, o.a0, o.a1, o.a2, o.a3, o.a4, o.b0, o.b1, o.b2, o.b3, o.b4, o.e, o.t, 0⟩)) := Lib.hid (gW2 ▸ ((((((((HO.out.set_ 3 _).set_ 4 _).set_ 5 _).set_ 6 _).set_ 19 _).set_ 0 _).set_ 1 _).set_ 2 _))
  have HR2 : RowKit.Hid (Whole W2 (g0 + 1) 53 [.int .i64 0, .int .i64 0, .int .i64 0, .int .i64 0, .int .i64 0, .int .i64 0, .int .i64 0, .int .i64 0, .int .i64 0, .int .i64 0, .int .i64 0, .int .i64 0, .int .i64 0, .int .i64 0, .int .i64 0, .int .i64 0, .int .i64 0, .bool false, .string ⟨#[]⟩, .int .i64 0]) := Lib.hid (gW2 ▸ ((((((((HR.out.far (by show g0 + 1 ≠ g0; omega) _).far (by show g0 + 1 ≠ g0; omega) _).far (by show g0 + 1 ≠ g0; omega) _).far (by show g0 + 1 ≠ g0; omega) _).far (by show g0 + 1 ≠ g0; omega) _).far (by show g0 + 1 ≠ g0; omega) _).far (by show g0 + 1 ≠ g0; omega) _).far (by show g0 + 1 ≠ g0; omega) _))
  have HB2 : RowKit.Hid (Below w.heap.size w W2) := Lib.hid (gW2 ▸ ((((((((HB.out.setCell (by show w.heap.size ≤ g0; exact HG0.out) _).setCell (by show w.heap.size ≤ g0; exact HG0.out) _).setCell (by show w.heap.size ≤ g0; exact HG0.out) _).setCell (by show w.heap.size ≤ g0; exact HG0.out) _).setCell (by show w.heap.size ≤ g0; exact HG0.out) _).setCell (by show w.heap.size ≤ g0; exact HG0.out) _).setCell (by show w.heap.size ≤ g0; exact HG0.out) _).setCell (by show w.heap.size ≤ g0; exact HG0.out) _))
  rw [gW2]
  clear gW2
  refine wp_region_lit ?_
  refine wpList_load_row rfl 53 (.tmp 1) rfl g0 rfl 53 (opCells ⟨0, 0, 0, 0, 0, 0, 0, o.a0, o.a1, o.a2, o.a3, o.a4, o.b0, o.b1, o.b2, o.b3, o.b4, o.e, o.t, 0⟩).toArray (0, 0) _ HO2.out Try.underlying53 rfl (by kernel_rfl) ?_
  simp only [Act.put, stA_, st0_, st1_]
  refine wpList_store_row rfl 53 (.tmp 2) (.tmp 33) rfl (g0 + 1) (opCells ⟨0, 0, 0, 0, 0, 0, 0, o.a0, o.a1, o.a2, o.a3, o.a4, o.b0, o.b1, o.b2, o.b3, o.b4, o.e, o.t, 0⟩).toArray rfl rfl 53 #[.int .i64 0, .int .i64 0, .int .i64 0, .int .i64 0, .int .i64 0, .int .i64 0, .int .i64 0, .int .i64 0, .int .i64 0, .int .i64 0, .int .i64 0, .int .i64 0, .int .i64 0, .int .i64 0, .int .i64 0, .int .i64 0, .int .i64 0, .bool false, .string ⟨#[]⟩, .int .i64 0] HR2.out (by kernel_rfl) rfl (by simp [opCells, Value.oneCell']) ?_
  have HR3 : RowKit.Hid (Whole (W2.setRow (g0 + 1) (opCells ⟨0, 0, 0, 0, 0, 0, 0, o.a0, o.a1, o.a2, o.a3, o.a4, o.b0, o.b1, o.b2, o.b3, o.b4, o.e, o.t, 0⟩).toArray) (g0 + 1) 53 (opCells ⟨0, 0, 0, 0, 0, 0, 0, o.a0, o.a1, o.a2, o.a3, o.a4, o.b0, o.b1, o.b2, o.b3, o.b4, o.e, o.t, 0⟩)) := Lib.hid (setRow_heap W2 (g0 + 1) _ _ _ _ HR2.out)
  have HB3 : RowKit.Hid (Below w.heap.size w (W2.setRow (g0 + 1) (opCells ⟨0, 0, 0, 0, 0, 0, 0, o.a0, o.a1, o.a2, o.a3, o.a4, o.b0, o.b1, o.b2, o.b3, o.b4, o.e, o.t, 0⟩).toArray)) := Lib.hid ⟨HB2.out.os, HB2.out.tape, HB2.out.output, (by have := HB2.out.size; simpa [World.setRow] using this), fun i hi => (setRow_other W2 (g0 + 1) i _ (by have := HG0.out; omega)).trans (HB2.out.block i hi)⟩
  obtain ⟨W3, gW3⟩ : ∃ x, W2.setRow (g0 + 1) (opCells ⟨0, 0, 0, 0, 0, 0, 0, o.a0, o.a1, o.a2, o.a3, o.a4, o.b0, o.b1, o.b2, o.b3, o.b4, o.e, o.t, 0⟩).toArray = x := ⟨_, rfl⟩
  rw [gW3] at HR3 HB3 ⊢
  clear gW3
  go_wp2
  exact bodyPost_ret (v := .agg (opCells ⟨0, 0, 0, 0, 0, 0, 0, o.a0, o.a1, o.a2, o.a3, o.a4, o.b0, o.b1, o.b2, o.b3, o.b4, o.e, o.t, 0⟩).toArray) (results_cell_row Try.results83 _ W3 (g0 + 1) 53 (opCells ⟨0, 0, 0, 0, 0, 0, 0, o.a0, o.a1, o.a2, o.a3, o.a4, o.b0, o.b1, o.b2, o.b3, o.b4, o.e, o.t, 0⟩).toArray (0, 0) _ (by rfl) HR3.out Try.underlying53 rfl (by kernel_rfl)) rfl ⟨rfl, HB3.out⟩
set_option maxRecDepth 100000 in
set_option maxHeartbeats 2000000 in
theorem rest_6 (o : OpT) (hk : o.k = 6) (w : World) : Calls Try.prog 83 #[.agg (opCells o).toArray] w fun e w' => e = .returned (.agg (opCells ⟨0, 0, 0, o.s1, o.n1, 0, 0, o.a0, o.a1, o.a2, o.a3, o.a4, o.b0, o.b1, o.b2, o.b3, o.b4, o.e, o.t, o.m⟩).toArray) ∧ Below w.heap.size w w' := by
  obtain ⟨k, s, n, s1, n1, s2, n2, a0, a1, a2, a3, a4, b0, b1, b2, b3, b4, e, t, m⟩ := o
  obtain rfl : k = 6 := hk
  obtain ⟨o, go⟩ : ∃ o : OpT, o = ⟨6, s, n, s1, n1, s2, n2, a0, a1, a2, a3, a4, b0, b1, b2, b3, b4, e, t, m⟩ := ⟨_, rfl⟩
  have q : o.k = 6 := by rw [go]
  rw [show (⟨0, 0, 0, s1, n1, 0, 0, a0, a1, a2, a3, a4, b0, b1, b2, b3, b4, e, t, m⟩ : OpT) = ⟨0, 0, 0, o.s1, o.n1, 0, 0, o.a0, o.a1, o.a2, o.a3, o.a4, o.b0, o.b1, o.b2, o.b3, o.b4, o.e, o.t, o.m⟩ from by rw [go]]
  rw [← go]
  clear go
  go_enter Try.func83, Try.ntmps83
  go_upto_region 1 with fail
  obtain ⟨W1, gW1⟩ : ∃ x, (w.alloc (.cells (opCells o).toArray 53)).alloc (.cells #[.int .i64 0, .int .i64 0, .int .i64 0, .int .i64 0, .int .i64 0, .int .i64 0, .int .i64 0, .int .i64 0, .int .i64 0, .int .i64 0, .int .i64 0, .int .i64 0, .int .i64 0, .int .i64 0, .int .i64 0, .int .i64 0, .int .i64 0, .bool false, .string ⟨#[]⟩, .int .i64 0] 53) = x := ⟨_, rfl⟩
  have HO : RowKit.Hid (Whole W1 w.heap.size 53 (opCells o)) := Lib.hid (by rw [← gW1]; exact (Whole.new_ w _ _).alloc _)
  have HR : RowKit.Hid (Whole W1 (w.heap.size + 1) 53 [.int .i64 0, .int .i64 0, .int .i64 0, .int .i64 0, .int .i64 0, .int .i64 0, .int .i64 0, .int .i64 0, .int .i64 0, .int .i64 0, .int .i64 0, .int .i64 0, .int .i64 0, .int .i64 0, .int .i64 0, .int .i64 0, .int .i64 0, .bool false, .string ⟨#[]⟩, .int .i64 0]) := Lib.hid (by rw [← gW1]; exact Whole.new2 (cs := [.int .i64 0, .int .i64 0, .int .i64 0, .int .i64 0, .int .i64 0, .int .i64 0, .int .i64 0, .int .i64 0, .int .i64 0, .int .i64 0, .int .i64 0, .int .i64 0, .int .i64 0, .int .i64 0, .int .i64 0, .int .i64 0, .int .i64 0, .bool false, .string ⟨#[]⟩, .int .i64 0]) (by simp))
  have HB : RowKit.Hid (Below w.heap.size w W1) := Lib.hid (by rw [← gW1]; exact below2 _ _ _)
  rw [gW1]
  clear gW1
  obtain ⟨g0, gg0⟩ : ∃ x, w.heap.size = x := ⟨_, rfl⟩
  rw [gg0] at HO HR ⊢
  have HG0 : RowKit.Hid (w.heap.size ≤ g0) := Lib.hid (by omega)
  clear gg0
  have l5 : W1.cell? ⟨g0, 5, none⟩ = some (.int .i64 o.s2) := HO.out.cell (i := 5) rfl
  have z5 := HO.out.free 5
  have l6 : W1.cell? ⟨g0, 6, none⟩ = some (.int .i64 o.n2) := HO.out.cell (i := 6) rfl
  have z6 := HO.out.free 6
  have l0 : W1.cell? ⟨g0, 0, none⟩ = some (.int .i64 o.k) := HO.out.cell (i := 0) rfl
  have z0 := HO.out.free 0
  have l1 : W1.cell? ⟨g0, 1, none⟩ = some (.int .i64 o.s) := HO.out.cell (i := 1) rfl
  have z1 := HO.out.free 1
  have l2 : W1.cell? ⟨g0, 2, none⟩ = some (.int .i64 o.n) := HO.out.cell (i := 2) rfl
  have z2 := HO.out.free 2
  go_upto_region 19 with fail
  clear l5 z5 l6 z6 l0 z0 l1 z1 l2 z2
  obtain ⟨W2, gW2⟩ : ∃ x, ((((((((((W1).setCell ⟨g0, 5, none⟩ (.int .i64 0))).setCell ⟨g0, 6, none⟩ (.int .i64 0))).setCell ⟨g0, 0, none⟩ (.int .i64 0))).setCell ⟨g0, 1, none⟩ (.int .i64 0))).setCell ⟨g0, 2, none⟩ (.int .i64 0)) = x := ⟨_, rfl⟩
  have HO2 : RowKit.Hid (Whole W2 g0 53 (opCells ⟨0, 0, 0, o.s1, o.n1, 0, 0, o.a0, o.a1, o.a2, o.a3, o.a4, o.b0, o.b1, o.b2, o.b3, o.b4, o.e, o.t, o.m⟩)) := Lib.hid (gW2 ▸ (((((HO.out.set_ 5 _).set_ 6 _).set_ 0 _).set_ 1 _).set_ 2 _))
  have HR2 : RowKit.Hid (Whole W2 (g0 + 1) 53 [.int .i64 0, .int .i64 0, .int .i64 0, .int .i64 0, .int .i64 0, .int .i64 0, .int .i64 0, .int .i64 0, .int .i64 0, .int .i64 0, .int .i64 0, .int .i64 0, .int .i64 0, .int .i64 0, .int .i64 0, .int .i64 0, .int .i64 0, .bool false, .string ⟨#[]⟩, .int .i64 0]) := Lib.hid (gW2 ▸ (((((HR.out.far (by show g0 + 1 ≠ g0; omega) _).far (by show g0 + 1 ≠ g0; omega) _).far (by show g0 + 1 ≠ g0; omega) _).far (by show g0 + 1 ≠ g0; omega) _).far (by show g0 + 1 ≠ g0; omega) _))
  have HB2 : RowKit.Hid (Below w.heap.size w W2) := Lib.hid (gW2 ▸ (((((HB.out.setCell (by show w.heap.size ≤ g0; exact HG0.out) _).setCell (by show w.heap.size ≤ g0; exact HG0.out) _).setCell (by show w.heap.size ≤ g0; exact HG0.out) _).setCell (by show w.heap.size ≤ g0; exact HG0.out) _).setCell (by show w.heap.size ≤ g0; exact HG0.out) _))
  rw [gW2]
  clear gW2
  refine wp_region_lit ?_
  refine wpList_load_row rfl 53 (.tmp 1) rfl g0 rfl 53 (opCells ⟨0, 0, 0, o.s1, o.n1, 0, 0, o.a0, o.a1, o.a2, o.a3, o.a4, o.b0, o.b1, o.b2, o.b3, o.b4, o.e, o.t, o.m⟩).toArray (0, 0) _ HO2.out Try.underlying53 rfl (by kernel_rfl) ?_
  simp only [Act.put, stA_, st0_, st1_]
  refine wpList_store_row rfl 53 (.tmp 2) (.tmp 33) rfl (g0 + 1) (opCells ⟨0, 0, 0, o.s1, o.n1, 0, 0, o.a0, o.a1, o.a2, o.a3, o.a4, o.b0, o.b1, o.b2, o.b3, o.b4, o.e, o.t, o.m⟩).toArray rfl rfl 53 #[.int .i64 0, .int .i64 0, .int .i64 0, .int .i64 0, .int .i64 0, .int .i64 0, .int .i64 0, .int .i64 0, .int .i64 0, .int .i64 0, .int .i64 0, .int .i64 0, .int .i64 0, .int .i64 0, .int .i64 0, .int .i64 0, .int .i64 0, .bool false, .string ⟨#[]⟩, .int .i64 0] HR2.out (by kernel_rfl) rfl (by simp [opCells, Value.oneCell']) ?_
  have HR3 : RowKit.Hid (Whole (W2.setRow (g0 + 1) (opCells ⟨0, 0, 0, o.s1, o.n1, 0, 0, o.a0, o.a1, o.a2, o.a3, o.a4, o.b0, o.b1, o.b2, o.b3, o.b4, o.e, o.t, o.m⟩).toArray) (g0 + 1) 53 (opCells ⟨0, 0, 0, o.s1, o.n1, 0, 0, o.a0, o.a1, o.a2, o.a3, o.a4, o.b0, o.b1, o.b2, o.b3, o.b4, o.e, o.t, o.m⟩)) := Lib.hid (setRow_heap W2 (g0 + 1) _ _ _ _ HR2.out)
  have HB3 : RowKit.Hid (Below w.heap.size w (W2.setRow (g0 + 1) (opCells ⟨0, 0, 0, o.s1, o.n1, 0, 0, o.a0, o.a1, o.a2, o.a3, o.a4, o.b0, o.b1, o.b2, o.b3, o.b4, o.e, o.t, o.m⟩).toArray)) := Lib.hid ⟨HB2.out.os, HB2.out.tape, HB2.out.output, (by have := HB2.out.size; simpa [World.setRow] using this), fun i hi => (setRow_other W2 (g0 + 1) i _ (by have := HG0.out; omega)).trans (HB2.out.block i hi)⟩
  obtain ⟨W3, gW3⟩ : ∃ x, W2.setRow (g0 + 1) (opCells ⟨0, 0, 0, o.s1, o.n1, 0, 0, o.a0, o.a1, o.a2, o.a3, o.a4, o.b0, o.b1, o.b2, o.b3, o.b4, o.e, o.t, o.m⟩).toArray = x := ⟨_, rfl⟩
  rw [gW3] at HR3 HB3 ⊢
  clear gW3
  go_wp2
  exact bodyPost_ret (v := .agg (opCells ⟨0, 0, 0, o.s1, o.n1, 0, 0, o.a0, o.a1, o.a2, o.a3, o.a4, o.b0, o.b1, o.b2, o.b3, o.b4, o.e, o.t, o.m⟩).toArray) (results_cell_row Try.results83 _ W3 (g0 + 1) 53 (opCells ⟨0, 0, 0, o.s1, o.n1, 0, 0, o.a0, o.a1, o.a2, o.a3, o.a4, o.b0, o.b1, o.b2, o.b3, o.b4, o.e, o.t, o.m⟩).toArray (0, 0) _ (by rfl) HR3.out Try.underlying53 rfl (by kernel_rfl)) rfl ⟨rfl, HB3.out⟩
set_option maxRecDepth 100000 in
set_option maxHeartbeats 2000000 in
theorem rest_7 (o : OpT) (hk : o.k = 7) (w : World) : Calls Try.prog 83 #[.agg (opCells o).toArray] w fun e w' => e = .returned (.agg (opCells ⟨0, 0, 0, o.s1, o.n1, o.s2, o.n2, o.a0, o.a1, o.a2, o.a3, o.a4, o.b0, o.b1, o.b2, o.b3, o.b4, false, ⟨#[]⟩, o.m⟩).toArray) ∧ Below w.heap.size w w' := by
  obtain ⟨k, s, n, s1, n1, s2, n2, a0, a1, a2, a3, a4, b0, b1, b2, b3, b4, e, t, m⟩ := o
  obtain rfl : k = 7 := hk
  obtain ⟨o, go⟩ : ∃ o : OpT, o = ⟨7, s, n, s1, n1, s2, n2, a0, a1, a2, a3, a4, b0, b1, b2, b3, b4, e, t, m⟩ := ⟨_, rfl⟩
  have q : o.k = 7 := by rw [go]
  rw [show (⟨0, 0, 0, s1, n1, s2, n2, a0, a1, a2, a3, a4, b0, b1, b2, b3, b4, false, ⟨#[]⟩, m⟩ : OpT) = ⟨0, 0, 0, o.s1, o.n1, o.s2, o.n2, o.a0, o.a1, o.a2, o.a3, o.a4, o.b0, o.b1, o.b2, o.b3, o.b4, false, ⟨#[]⟩, o.m⟩ from by rw [go]]
  rw [← go]
  clear go
  go_enter Try.func83, Try.ntmps83
  go_upto_region 1 with fail
  obtain ⟨W1, gW1⟩ : ∃ x, (w.alloc (.cells (opCells o).toArray 53)).alloc (.cells #[.int .i64 0, .int .i64 0, .int .i64 0, .int .i64 0, .int .i64 0, .int .i64 0, .int .i64 0, .int .i64 0, .int .i64 0, .int .i64 0, .int .i64 0, .int .i64 0, .int .i64 0, .int .i64 0, .int .i64 0, .int .i64 0, .int .i64 0, .bool false, .string ⟨#[]⟩, .int .i64 0] 53) = x := ⟨_, rfl⟩
  have HO : RowKit.Hid (Whole W1 w.heap.size 53 (opCells o)) := Lib.hid (by rw [← gW1]; exact (Whole.new_ w _ _).alloc _)
  have HR : RowKit.Hid (Whole W1 (w.heap.size + 1) 53 [.int .i64 0, .int .i64 0, .int .i64 0, .int .i64 0, .int .i64 0, .int .i64 0, .int .i64 0, .int .i64 0, .int .i64 0, .int .i64 0, .int .i64 0, .int .i64 0, .int .i64 0, .int .i64 0, .int .i64 0, .int .i64 0, .int .i64 0, .bool false, .string ⟨#[]⟩, .int .i64 0]) := Lib.hid (by rw [← gW1]; exact Whole.new2 (cs := [.int .i64 0, .int .i64 0, .int .i64 0, .int .i64 0, .int .i64 0, .int .i64 0, .int .i64 0, .int .i64 0, .int .i64 0, .int .i64 0, .int .i64 0, .int .i64 0, .int .i64 0, .int .i64 0, .int .i64 0, .int .i64 0, .int .i64 0, .bool false, .string ⟨#[]⟩, .int .i64 0]) (by simp))
  have HB : RowKit.Hid (Below w.heap.size w W1) := Lib.hid (by rw [← gW1]; exact below2 _ _ _)
  rw [gW1]
  clear gW1
  obtain ⟨g0, gg0⟩ : ∃ x, w.heap.size = x := ⟨_, rfl⟩
  rw [gg0] at HO HR ⊢
  have HG0 : RowKit.Hid (w.heap.size ≤ g0) := Lib.hid (by omega)
  clear gg0
  have l17 : W1.cell? ⟨g0, 17, none⟩ = some (.bool o.e) := HO.out.cell (i := 17) rfl
  have z17 := HO.out.free 17
  have l18 : W1.cell? ⟨g0, 18, none⟩ = some (.string o.t) := HO.out.cell (i := 18) rfl
  have z18 := HO.out.free 18
  have l0 : W1.cell? ⟨g0, 0, none⟩ = some (.int .i64 o.k) := HO.out.cell (i := 0) rfl
  have z0 := HO.out.free 0
  have l1 : W1.cell? ⟨g0, 1, none⟩ = some (.int .i64 o.s) := HO.out.cell (i := 1) rfl
  have z1 := HO.out.free 1
  have l2 : W1.cell? ⟨g0, 2, none⟩ = some (.int .i64 o.n) := HO.out.cell (i := 2) rfl
  have z2 := HO.out.free 2
  go_upto_region 19 with fail
  clear l17 z17 l18 z18 l0 z0 l1 z1 l2 z2
  obtain ⟨W2, gW2⟩ : ∃ x, ((((((((((W1).setCell ⟨g0, 17, none⟩ (.bool false))).setCell ⟨g0, 18, none⟩ (.string ⟨#[]⟩))).setCell ⟨g0, 0, none⟩ (.int .i64 0))).setCell ⟨g0, 1, none⟩ (.int .i64 0))).setCell ⟨g0, 2, none⟩ (.int .i64 0)) = x := ⟨_, rfl⟩
  have HO2 : RowKit.Hid (Whole W2 g0 53 (opCells ⟨0, 0, 0, o.s1, o.n1, o.s2, o.n2, o.a0, o.a1, o.a2, o.a3, o.a4, o.b0, o.b1, o.b2, o.b3, o.b4, false, ⟨#[]⟩, o.m⟩)) := Lib.hid (gW2 ▸ (((((HO.out.set_ 17 _).set_ 18 _).set_ 0 _).set_ 1 _).set_ 2 _))
  have HR2 : RowKit.Hid (Whole W2 (g0 + 1) 53 [.int .i64 0, .int .i64 0, .int .i64 0, .int .i64 0, .int .i64 0, .int .i64 0, .int .i64 0, .int .i64 0, .int .i64 0, .int .i64 0, .int .i64 0, .int .i64 0, .int .i64 0, .int .i64 0, .int .i64 0, .int .i64 0, .int .i64 0, .bool false, .string ⟨#[]⟩, .int .i64 0]) := Lib.hid (gW2 ▸ (((((HR.out.far (by show g0 + 1 ≠ g0; omega) _).far (by show g0 + 1 ≠ g0; omega) _).far (by show g0 + 1 ≠ g0; omega) _).far (by show g0 + 1 ≠ g0; omega) _).far (by show g0 + 1 ≠ g0; omega) _))
  have HB2 : RowKit.Hid (Below w.heap.size w W2) := Lib.hid (gW2 ▸ (((((HB.out.setCell (by show w.heap.size ≤ g0; exact HG0.out) _).setCell (by show w.heap.size ≤ g0; exact HG0.out) _).setCell (by show w.heap.size ≤ g0; exact HG0.out) _).setCell (by show w.heap.size ≤ g0; exact HG0.out) _).setCell (by show w.heap.size ≤ g0; exact HG0.out) _))
  rw [gW2]
  clear gW2
  refine wp_region_lit ?_
  refine wpList_load_row rfl 53 (.tmp 1) rfl g0 rfl 53 (opCells ⟨0, 0, 0, o.s1, o.n1, o.s2, o.n2, o.a0, o.a1, o.a2, o.a3, o.a4, o.b0, o.b1, o.b2, o.b3, o.b4, false, ⟨#[]⟩, o.m⟩).toArray (0, 0) _ HO2.out Try.underlying53 rfl (by kernel_rfl) ?_
  simp only [Act.put, stA_, st0_, st1_]
  refine wpList_store_row rfl 53 (.tmp 2) (.tmp 33) rfl (g0 + 1) (opCells ⟨0, 0, 0, o.s1, o.n1, o.s2, o.n2, o.a0, o.a1, o.a2, o.a3, o.a4, o.b0, o.b1, o.b2, o.b3, o.b4, false, ⟨#[]⟩, o.m⟩).toArray rfl rfl 53 #[.int .i64 0, .int .i64 0, .int .i64 0, .int .i64 0, .int .i64 0, .int .i64 0, .int .i64 0, .int .i64 0, .int .i64 0, .int .i64 0, .int .i64 0, .int .i64 0, .int .i64 0, .int .i64 0, .int .i64 0, .int .i64 0, .int .i64 0, .bool false, .string ⟨#[]⟩, .int .i64 0] HR2.out (by kernel_rfl) rfl (by simp [opCells, Value.oneCell']) ?_
  have HR3 : RowKit.Hid (Whole (W2.setRow (g0 + 1) (opCells ⟨0, 0, 0, o.s1, o.n1, o.s2, o.n2, o.a0, o.a1, o.a2, o.a3, o.a4, o.b0, o.b1, o.b2, o.b3, o.b4, false, ⟨#[]⟩, o.m⟩).toArray) (g0 + 1) 53 (opCells ⟨0, 0, 0, o.s1, o.n1, o.s2, o.n2, o.a0, o.a1, o.a2, o.a3, o.a4, o.b0, o.b1, o.b2, o.b3, o.b4, false, ⟨#[]⟩, o.m⟩)) := Lib.hid (setRow_heap W2 (g0 + 1) _ _ _ _ HR2.out)
  have HB3 : RowKit.Hid (Below w.heap.size w (W2.setRow (g0 + 1) (opCells ⟨0, 0, 0, o.s1, o.n1, o.s2, o.n2, o.a0, o.a1, o.a2, o.a3, o.a4, o.b0, o.b1, o.b2, o.b3, o.b4, false, ⟨#[]⟩, o.m⟩).toArray)) := Lib.hid ⟨HB2.out.os, HB2.out.tape, HB2.out.output, (by have := HB2.out.size; simpa [World.setRow] using this), fun i hi => (setRow_other W2 (g0 + 1) i _ (by have := HG0.out; omega)).trans (HB2.out.block i hi)⟩
  obtain ⟨W3, gW3⟩ : ∃ x, W2.setRow (g0 + 1) (opCells ⟨0, 0, 0, o.s1, o.n1, o.s2, o.n2, o.a0, o.a1, o.a2, o.a3, o.a4, o.b0, o.b1, o.b2, o.b3, o.b4, false, ⟨#[]⟩, o.m⟩).toArray = x := ⟨_, rfl⟩
  rw [gW3] at HR3 HB3 ⊢
  clear gW3
  go_wp2
  exact bodyPost_ret (v := .agg (opCells ⟨0, 0, 0, o.s1, o.n1, o.s2, o.n2, o.a0, o.a1, o.a2, o.a3, o.a4, o.b0, o.b1, o.b2, o.b3, o.b4, false, ⟨#[]⟩, o.m⟩).toArray) (results_cell_row Try.results83 _ W3 (g0 + 1) 53 (opCells ⟨0, 0, 0, o.s1, o.n1, o.s2, o.n2, o.a0, o.a1, o.a2, o.a3, o.a4, o.b0, o.b1, o.b2, o.b3, o.b4, false, ⟨#[]⟩, o.m⟩).toArray (0, 0) _ (by rfl) HR3.out Try.underlying53 rfl (by kernel_rfl)) rfl ⟨rfl, HB3.out⟩
set_option maxRecDepth 100000 in
set_option maxHeartbeats 2000000 in
theorem rest_8 (o : OpT) (hk : o.k = 8) (w : World) : Calls Try.prog 83 #[.agg (opCells o).toArray] w fun e w' => e = .returned (.agg (opCells ⟨0, 0, 0, o.s1, o.n1, o.s2, o.n2, o.a0, o.a1, o.a2, o.a3, o.a4, o.b0, o.b1, o.b2, o.b3, o.b4, false, o.t, 0⟩).toArray) ∧ Below w.heap.size w w' := by
  obtain ⟨k, s, n, s1, n1, s2, n2, a0, a1, a2, a3, a4, b0, b1, b2, b3, b4, e, t, m⟩ := o
  obtain rfl : k = 8 := hk
  obtain ⟨o, go⟩ : ∃ o : OpT, o = ⟨8, s, n, s1, n1, s2, n2, a0, a1, a2, a3, a4, b0, b1, b2, b3, b4, e, t, m⟩ := ⟨_, rfl⟩
  have q : o.k = 8 := by rw [go]
  rw [show (⟨0, 0, 0, s1, n1, s2, n2, a0, a1, a2, a3, a4, b0, b1, b2, b3, b4, false, t, 0⟩ : OpT) = ⟨0, 0, 0, o.s1, o.n1, o.s2, o.n2, o.a0, o.a1, o.a2, o.a3, o.a4, o.b0, o.b1, o.b2, o.b3, o.b4, false, o.t, 0⟩ from by rw [go]]
  rw [← go]
  clear go
  go_enter Try.func83, Try.ntmps83
  go_upto_region 1 with fail
  obtain ⟨W1, gW1⟩ : ∃ x, (w.alloc (.cells (opCells o).toArray 53)).alloc (.cells #[.int .i64 0, .int .i64 0, .int .i64 0, .int .i64 0, .int .i64 0, .int .i64 0, .int .i64 0, .int .i64 0, .int .i64 0, .int .i64 0, .int .i64 0, .int .i64 0, .int .i64 0, .int .i64 0, .int .i64 0, .int .i64 0, .int .i64 0, .bool false, .string ⟨#[]⟩, .int .i64 0] 53) = x := ⟨_, rfl⟩
  have HO : RowKit.Hid (Whole W1 w.heap.size 53 (opCells o)) := Lib.hid (by rw [← gW1]; exact (Whole.new_ w _ _).alloc _)
  have HR : RowKit.Hid (Whole W1 (w.heap.size + 1) 53 [.int .i64 0, .int .i64 0, .int .i64 0, .int .i64 0, .int .i64 0, .int .i64 0, .int .i64 0, .int .i64 0, .int .i64 0, .int .i64 0, .int .i64 0, .int .i64 0, .int .i64 0, .int .i64 0, .int .i64 0, .int .i64 0, .int .i64 0, .bool false, .string ⟨#[]⟩, .int .i64 0]) := Lib.hid (by rw [← gW1]; exact Whole.new2 (cs := [.int .i64 0, .int .i64 0, .int .i64 0, .int .i64 0, .int .i64 0, .int .i64 0, .int .i64 0, .int .i64 0, .int .i64 0, .int .i64 0, .int .i64 0, .int .i64 0, .int .i64 0, .int .i64 0, .int .i64 0, .int .i64 0, .int .i64 0, .bool false, .string ⟨#[]⟩, .int .i64 0]) (by simp))
  have HB : RowKit.Hid (Below w.heap.size w W1) := Lib.hid (by rw [← gW1]; exact below2 _ _ _)
  rw [gW1]
  clear gW1
  obtain ⟨g0, gg0⟩ : ∃ x, w.heap.size = x := ⟨_, rfl⟩
  rw [gg0] at HO HR ⊢
  have HG0 : RowKit.Hid (w.heap.size ≤ g0) := Lib.hid (by omega)
  clear gg0
  have l17 : W1.cell? ⟨g0, 17, none⟩ = some (.bool o.e) := HO.out.cell (i := 17) rfl
  have z17 := HO.out.free 17
  have l19 : W1.cell? ⟨g0, 19, none⟩ = some (.int .i64 o.m) := HO.out.cell (i := 19) rfl
  have z19 := HO.out.free 19
  have l0 : W1.cell? ⟨g0, 0, none⟩ = some (.int .i64 o.k) := HO.out.cell (i := 0) rfl
  have z0 := HO.out.free 0
  have l1 : W1.cell? ⟨g0, 1, none⟩ = some (.int .i64 o.s) := HO.out.cell (i := 1) rfl
  have z1 := HO.out.free 1
  have l2 : W1.cell? ⟨g0, 2, none⟩ = some (.int .i64 o.n) := HO.out.cell (i := 2) rfl
  have z2 := HO.out.free 2
  go_upto_region 19 with fail
  clear l17 z17 l19 z19 l0 z0 l1 z1 l2 z2
  obtain ⟨W2, gW2⟩ : ∃ x, ((((((((((W1).setCell ⟨g0, 17, none⟩ (.bool false))).setCell ⟨g0, 19, none⟩ (.int .i64 0))).setCell ⟨g0, 0, none⟩ (.int .i64 0))).setCell ⟨g0, 1, none⟩ (.int .i64 0))).setCell ⟨g0, 2, none⟩ (.int .i64 0)) = x := ⟨_, rfl⟩
  have HO2 : RowKit.Hid (Whole W2 g0 53 (opCells ⟨0, 0, 0, o.s1, o.n1, o.s2, o.n2, o.a0, o.a1, o.a2, o.a3, o.a4, o.b0, o.b1, o.b2, o.b3, o.b4, false, o.t, 0⟩)) := Lib.hid (gW2 ▸ (((((HO.out.set_ 17 _).set_ 19 _).set_ 0 _).set_ 1 _).set_ 2 _))
  have HR2 : RowKit.Hid (Whole W2 (g0 + 1) 53 [.int .i64 0, .int .i64 0, .int .i64 0, .int .i64 0, .int .i64 0, .int .i64 0, .int .i64 0, .int .i64 0, .int .i64 0, .int .i64 0, .int .i64 0, .int .i64 0, .int .i64 0, .int .i64 0, .int .i64 0, .int .i64 0, .int .i64 0, .bool false, .string ⟨#[]⟩, .int .i64 0]) := Lib.hid (gW2 ▸ (((((HR.out.far (by show g0 + 1 ≠ g0; omega) _).far (by show g0 + 1 ≠ g0; omega) _).far (by show g0 + 1 ≠ g0; omega) _).far (by show g0 + 1 ≠ g0; omega) _).far (by show g0 + 1 ≠ g0; omega) _))
  have HB2 : RowKit.Hid (Below w.heap.size w W2) := Lib.hid (gW2 ▸ (((((HB.out.setCell (by show w.heap.size ≤ g0; exact HG0.out) _).setCell (by show w.heap.size ≤ g0; exact HG0.out) _).setCell (by show w.heap.size ≤ g0; exact HG0.out) _).setCell (by show w.heap.size ≤ g0; exact HG0.out) _).setCell (by show w.heap.size ≤ g0; exact HG0.out) _))
  rw [gW2]
  clear gW2
  refine wp_region_lit ?_
  refine wpList_load_row rfl 53 (.tmp 1) rfl g0 rfl 53 (opCells ⟨0, 0, 0, o.s1, o.n1, o.s2, o.n2, o.a0, o.a1, o.a2, o.a3, o.a4, o.b0, o.b1, o.b2, o.b3, o.b4, false, o.t, 0⟩).toArray (0, 0) _ HO2.out Try.underlying53 rfl (by kernel_rfl) ?_
  simp only [Act.put, stA_, st0_, st1_]
  refine wpList_store_row rfl 53 (.tmp 2) (.tmp 33) rfl (g0 + 1) (opCells ⟨0, 0, 0, o.s1, o.n1, o.s2, o.n2, o.a0, o.a1, o.a2, o.a3, o.a4, o.b0, o.b1, o.b2, o.b3, o.b4, false, o.t, 0⟩).toArray rfl rfl 53 #[.int .i64 0, .int .i64 0, .int .i64 0, .int .i64 0, .int .i64 0, .int .i64 0, .int .i64 0, .int .i64 0, .int .i64 0, .int .i64 0, .int .i64 0, .int .i64 0, .int .i64 0, .int .i64 0, .int .i64 0, .int .i64 0, .int .i64 0, .bool false, .string ⟨#[]⟩, .int .i64 0] HR2.out (by kernel_rfl) rfl (by simp [opCells, Value.oneCell']) ?_
  have HR3 : RowKit.Hid (Whole (W2.setRow (g0 + 1) (opCells ⟨0, 0, 0, o.s1, o.n1, o.s2, o.n2, o.a0, o.a1, o.a2, o.a3, o.a4, o.b0, o.b1, o.b2, o.b3, o.b4, false, o.t, 0⟩).toArray) (g0 + 1) 53 (opCells ⟨0, 0, 0, o.s1, o.n1, o.s2, o.n2, o.a0, o.a1, o.a2, o.a3, o.a4, o.b0, o.b1, o.b2, o.b3, o.b4, false, o.t, 0⟩)) := Lib.hid (setRow_heap W2 (g0 + 1) _ _ _ _ HR2.out)
  have HB3 : RowKit.Hid (Below w.heap.size w (W2.setRow (g0 + 1) (opCells ⟨0, 0, 0, o.s1, o.n1, o.s2, o.n2, o.a0, o.a1, o.a2, o.a3, o.a4, o.b0, o.b1, o.b2, o.b3, o.b4, false, o.t, 0⟩).toArray)) := Lib.hid ⟨HB2.out.os, HB2.out.tape, HB2.out.output, (by have := HB2.out.size; simpa [World.setRow] using this), fun i hi => (setRow_other W2 (g0 + 1) i _ (by have := HG0.out; omega)).trans (HB2.out.block i hi)⟩
  obtain ⟨W3, gW3⟩ : ∃ x, W2.setRow (g0 + 1) (opCells ⟨0, 0, 0, o.s1, o.n1, o.s2, o.n2, o.a0, o.a1, o.a2, o.a3, o.a4, o.b0, o.b1, o.b2, o.b3, o.b4, false, o.t, 0⟩).toArray = x := ⟨_, rfl⟩
  rw [gW3] at HR3 HB3 ⊢
  clear gW3
  go_wp2
  exact bodyPost_ret (v := .agg (opCells ⟨0, 0, 0, o.s1, o.n1, o.s2, o.n2, o.a0, o.a1, o.a2, o.a3, o.a4, o.b0, o.b1, o.b2, o.b3, o.b4, false, o.t, 0⟩).toArray) (results_cell_row Try.results83 _ W3 (g0 + 1) 53 (opCells ⟨0, 0, 0, o.s1, o.n1, o.s2, o.n2, o.a0, o.a1, o.a2, o.a3, o.a4, o.b0, o.b1, o.b2, o.b3, o.b4, false, o.t, 0⟩).toArray (0, 0) _ (by rfl) HR3.out Try.underlying53 rfl (by kernel_rfl)) rfl ⟨rfl, HB3.out⟩
theorem rest_any (o : OpT) : Pure 83 #[.agg (opCells o).toArray] (.agg (opCells (restO o)).toArray) := fun w => by
  unfold restO
  by_cases k3 : o.k = 3
  · rw [if_pos k3]
    exact rest_3 o k3 w
  have q3 : (o.k == 3) = false := by simpa using k3
  rw [if_neg k3]
  by_cases k5 : o.k = 5
  · rw [if_pos k5]
    exact rest_5 o k5 w
  have q5 : (o.k == 5) = false := by simpa using k5
  rw [if_neg k5]
  by_cases k6 : o.k = 6
  · rw [if_pos k6]
    exact rest_6 o k6 w
  have q6 : (o.k == 6) = false := by simpa using k6
  rw [if_neg k6]
  by_cases k7 : o.k = 7
  · rw [if_pos k7]
    exact rest_7 o k7 w
  have q7 : (o.k == 7) = false := by simpa using k7
  rw [if_neg k7]
  by_cases k8 : o.k = 8
  · rw [if_pos k8]
    exact rest_8 o k8 w
  have q8 : (o.k == 8) = false := by simpa using k8
  rw [if_neg k8]
  exact rest_0 o q3 q5 q6 q7 q8 w
end Go.Proofs.Ytinfbaflkjghhaa
/- The contract of the document's own MayDart. -/
namespace Go.Proofs.Ytinfbaflkjghhaa
open Go.RowKit
theorem rmaydart_may (s n c : Int) (w : World) (h : mayI s n = true) :
    Calls Try.prog 101 #[.agg #[.int .i64 s, .int .i64 n, .int .i64 c]] w fun e w' => e = .returned (.bool (decide (c = 0) || decide (c = 1))) ∧ Below w.heap.size w w' := by
  have hm := rmay_any s n
  rw [h] at hm
  have H := Lib.hid hm
  clear hm h
  by_cases c0 : c = 0
  · subst c0
    go_enter Try.func101, Try.ntmps101
    go_wp2_with (first | (go_at_call 82; refine (H.out _).mono ?_; rintro e w' ⟨rfl, hb⟩; obtain ⟨hc, hf⟩ := bcell hb))
    go_ret
    exact ⟨rfl, below_after1 hb⟩
  · have h0 : (c == 0) = false := by simpa using c0
    by_cases c1 : c = 1
    · subst c1
      go_enter Try.func101, Try.ntmps101
      go_wp2_with (first | (go_at_call 82; refine (H.out _).mono ?_; rintro e w' ⟨rfl, hb⟩; obtain ⟨hc, hf⟩ := bcell hb))
      go_ret
      exact ⟨rfl, below_after1 hb⟩
    · have h1 : (c == 1) = false := by simpa using c1
      have hr : (decide (c = 0) || decide (c = 1)) = false := by simp [c0, c1]
      rw [hr]
      clear hr
      go_enter Try.func101, Try.ntmps101
      go_wp2_with (first | (go_at_call 82; refine (H.out _).mono ?_; rintro e w' ⟨rfl, hb⟩; obtain ⟨hc, hf⟩ := bcell hb))
      go_ret
      exact ⟨rfl, below_after1 hb⟩
theorem rmaydart_not (s n c : Int) (w : World) (h : mayI s n = false) :
    Calls Try.prog 101 #[.agg #[.int .i64 s, .int .i64 n, .int .i64 c]] w fun e w' => e = .returned (.bool false) ∧ Below w.heap.size w w' := by
  have hm := rmay_any s n
  rw [h] at hm
  have H := Lib.hid hm
  clear hm h
  go_enter Try.func101, Try.ntmps101
  go_wp2_with (first | (go_at_call 82; refine (H.out _).mono ?_; rintro e w' ⟨rfl, hb⟩; obtain ⟨hc, hf⟩ := bcell hb))
  go_ret
  exact ⟨rfl, below_after1 hb⟩
theorem rmaydart_any (s n c : Int) : Pure 101 #[.agg #[.int .i64 s, .int .i64 n, .int .i64 c]] (.bool (mayD s n c)) := fun w => by
  unfold mayD
  cases h : mayI s n
  · exact rmaydart_not s n c w h
  · exact rmaydart_may s n c w h
end Go.Proofs.Ytinfbaflkjghhaa
