/- 'PackTakes' answers true for every row of bytes.
   No condition beyond the row's own. -/
import Derived.Test.YtmkflebkifbpfaaGreatZEA
import Derived.Test.YtmkflebkifbpfaaGreatZEJ
import Derived.Test.YtmkflebkifbpfaaGreatZED
import Derived.Test.YtmkflebkifbpfaaGreatRows
import Derived.Test.YtmkflebkifbpfaaGreatZEI
import Derived.ChangeMaps5
/- The document's Take of a name. -/
set_option linter.unusedSimpArgs false
set_option linter.unusedVariables false
namespace Go.Proofs.YtmkflebkifbpfaaGreat
open Go.RowKit
/-- What the document's Take of a name tells. -/
def GivesRI (w : World) (A0 : Option Addr) (L : List Nat) (e : Ending) (w' : World) : Prop :=
  ∃ x1 x2 A' n' c' R, e = .returned (.tuple #[.agg #[.int .i64 x1, .int .i64 x2], .slice A' n' c', .bool (idT L)]) ∧ RdS w' w'.heap.size 1 A' n' c' (rowsV f8 R) ∧ (∃ t, R = L.drop t) ∧ (idT L = true → (x1, x2) = nm4 L ∧ R = L.drop 4) ∧ Lies A0 A' ∧ Below w.heap.size w w'
set_option maxRecDepth 100000 in
set_option maxHeartbeats 4000000 in
theorem ridtake_any (A : Option Addr) (n c : Nat) (L : List Nat) (w : World) (h : RdS w w.heap.size 1 A n c (rowsV f8 L)) (hb : ∀ b ∈ L, b < 256) (hn : n ≤ 100000) :
    Calls Tryz.prog 34 #[.slice A n c] w (GivesRI w A L) := by
  have hl : L.length = n := h.rlen f8_len (by decide)
  have HR := Lib.hid h
  have HX0 : RowKit.Hid (Whole (w.alloc (.cells #[.int .i64 0, .int .i64 0] 41)) w.heap.size 41 [.int .i64 0, .int .i64 0]) := Lib.hid (Whole.new_ _ _ [_, _])
  have HE0 : RowKit.Hid (Ext w (w.alloc (.cells #[.int .i64 0, .int .i64 0] 41))) := Lib.hid (below1 w _)
  by_cases h4 : n < 4
  · have hT : idT L = false := decide_eq_false (fun q => by have := q.1; omega)
    have HT := Lib.hid hT
    have hlt : (n : Int) < 4 := by omega
    clear h hb hl hT
    go_enter Tryz.func34, Tryz.ntmps34
    go_upto_region 1 with fail
    obtain ⟨w0, gw0⟩ : ∃ z, w.alloc (.cells #[.int .i64 0, .int .i64 0] 41) = z := ⟨_, rfl⟩
    obtain ⟨b, gb⟩ : ∃ z, w.heap.size = z := ⟨_, rfl⟩
    rw [gw0] at HX0 HE0 ⊢
    rw [gb] at HX0 ⊢
    have Gb := Lib.hid gb
    clear gw0 gb
    have q0 := HX0.out.cell (i := 0) rfl
    have q1 := HX0.out.cell (i := 1) rfl
    have f0 := HX0.out.free 0
    have f1 := HX0.out.free 1
    go_wp2
    have HXz := (HX0.out.set_ 0 (.int .i64 0)).set_ 1 (.int .i64 0)
    have HBz := ((show Below w.heap.size w w0 from HE0.out).setCell (p := ⟨b, 0, none⟩) (by show w.heap.size ≤ b; exact Nat.le_of_eq Gb.out) (.int .i64 0)).setCell (p := ⟨b, 1, none⟩) (by show w.heap.size ≤ b; exact Nat.le_of_eq Gb.out) (.int .i64 0)
    exact ret_whole3 rfl b rfl rfl rfl HXz Tryz.underlying41 rfl (by kernel_rfl) rfl (by
      unfold GivesRI
      rw [HT.out]
      exact ⟨0, 0, A, n, c, L, rfl, HR.out.up HBz HBz.size, ⟨0, rfl⟩, fun e => (by cases e), fun a' e => ⟨a', e, rfl⟩, HBz⟩)
  · obtain ⟨a0, a1, a2, a3, K, rfl⟩ : ∃ a0 a1 a2 a3 K, L = a0 :: a1 :: a2 :: a3 :: K := by
      have h5 : 4 ≤ L.length := by omega
      match L, h5 with
      | a :: b :: c :: d :: K, _ => exact ⟨a, b, c, d, K, rfl⟩
    have b0 := hb a0 (by simp)
    have b1 := hb a1 (by simp)
    have b2 := hb a2 (by simp)
    have b3 := hb a3 (by simp)
    have hlow := h.low_ (k := 4) (by omega)
    rw [show (rowsV f8 (a0 :: a1 :: a2 :: a3 :: K)).drop (4 * 1) = rowsV f8 K from rfl] at hlow
    obtain ⟨bb, off, rfl, hbB, hpl⟩ := h.place f8_len (by decide) (by omega)
    have q0 := hpl 0 _ rfl 0 _ rfl
    have q1 := hpl 1 _ rfl 0 _ rfl
    have q2 := hpl 2 _ rfl 0 _ rfl
    have q3 := hpl 3 _ rfl 0 _ rfl
    simp only [Addr.add_lit, Nat.add_zero, Nat.mul_one, Nat.zero_mul, Nat.one_mul] at q0 q1 q2 q3
    have l0 := HE0.out.cell q0
    have l1 := HE0.out.cell q1
    have l2 := HE0.out.cell q2
    have l3 := HE0.out.cell q3
    obtain ⟨A1, hA1⟩ : ∃ A1, (if c = 4 then (some ⟨bb, off, none⟩ : Option Addr) else (some ⟨bb, off, none⟩ : Option Addr).map (·.add (4 * 1))) = A1 := ⟨_, rfl⟩
    rw [hA1] at hlow
    obtain ⟨r, gr⟩ : ∃ z, n - 4 = z := ⟨_, rfl⟩
    have HAr := Lib.hid hA1
    have Hm4 : RowKit.Hid (4 ≤ n ∧ n - 4 = r) := Lib.hid ⟨by omega, gr⟩
    rw [gr] at hlow
    have HLow := Lib.hid hlow
    have v0 : IntKind.i64.wrap (a0 : Int) = (a0 : Int) := IntWalk.i64_in _ (by omega)
    have v1 : IntKind.i64.wrap (a1 : Int) = (a1 : Int) := IntWalk.i64_in _ (by omega)
    have v2 : IntKind.i64.wrap (a2 : Int) = (a2 : Int) := IntWalk.i64_in _ (by omega)
    have v3 : IntKind.i64.wrap (a3 : Int) = (a3 : Int) := IntWalk.i64_in _ (by omega)
    obtain ⟨y1, e1⟩ : ∃ z, 65536 * (a1 : Int) = z := ⟨_, rfl⟩
    obtain ⟨y2, e2⟩ : ∃ z, 256 * (a2 : Int) = z := ⟨_, rfl⟩
    obtain ⟨y3, e3⟩ : ∃ z, y1 + y2 = z := ⟨_, rfl⟩
    obtain ⟨k, e4⟩ : ∃ z, y3 + (a3 : Int) = z := ⟨_, rfl⟩
    have m1 : IntKind.i64.wrap y1 = y1 := IntWalk.i64_in _ (by omega)
    have m2 : IntKind.i64.wrap y2 = y2 := IntWalk.i64_in _ (by omega)
    have m3 : IntKind.i64.wrap y3 = y3 := IntWalk.i64_in _ (by omega)
    have m4 : IntKind.i64.wrap k = k := IntWalk.i64_in _ (by omega)
    replace m1 : IntKind.i64.wrap (65536 * (a1 : Int)) = y1 := by rw [e1]; exact m1
    replace m2 : IntKind.i64.wrap (256 * (a2 : Int)) = y2 := by rw [e2]; exact m2
    replace m3 : IntKind.i64.wrap (y1 + y2) = y3 := by rw [e3]; exact m3
    replace m4 : IntKind.i64.wrap (y3 + (a3 : Int)) = k := by rw [e4]; exact m4
    have hnm : nm4 (a0 :: a1 :: a2 :: a3 :: K) = ((a0 : Int), k) := by
      rw [← e4, ← e3, ← e1, ← e2]
      rfl
    obtain ⟨s, gs⟩ : ∃ z : Int, (a0 : Int) = z := ⟨_, rfl⟩
    rw [gs] at hnm v0
    rw [← gs] at v0
    replace v0 : IntKind.i64.wrap (a0 : Int) = s := v0.trans gs
    have hid : idT (a0 :: a1 :: a2 :: a3 :: K) = mayI s k := by
      unfold idT
      rw [hnm]
      show decide (4 ≤ (a0 :: a1 :: a2 :: a3 :: K).length ∧ mayI s k = true) = mayI s k
      by_cases hm : mayI s k = true
      · rw [hm]
        exact decide_eq_true ⟨by simp, rfl⟩
      · have hf : mayI s k = false := by simpa using hm
        rw [hf]
        exact decide_eq_false (fun q => by cases q.2)
    have HN := Lib.hid hnm
    have HMy := Lib.hid (fun W => rmay_any s k W)
    obtain ⟨my, gmy⟩ : ∃ z, mayI s k = z := ⟨_, rfl⟩
    rw [gmy] at HMy hid
    have HT := Lib.hid hid
    have HbB := Lib.hid hbB
    have hge : ¬ (n : Int) < 4 := by omega
    have hn0 : 0 < n := by omega
    have hn1 : (1 : Int) < (n : Int) := by omega
    have hn2 : (2 : Int) < (n : Int) := by omega
    have hn3 : (3 : Int) < (n : Int) := by omega
    clear gs e1 e2 e3 e4 h hb hlow hpl q0 q1 q2 q3 hA1 gr hid hnm gmy hbB hl b0 b1 b2 b3
    go_enter Tryz.func34, Tryz.ntmps34
    go_upto_region 3 with fail
    clear hge
    obtain ⟨w0, gw0⟩ : ∃ z, w.alloc (.cells #[.int .i64 0, .int .i64 0] 41) = z := ⟨_, rfl⟩
    have Hsz : RowKit.Hid (w.heap.size < w0.heap.size) := Lib.hid (by rw [← gw0]; simp)
    obtain ⟨b, gb⟩ : ∃ z, w.heap.size = z := ⟨_, rfl⟩
    rw [gw0] at HX0 HE0 l0 l1 l2 l3 ⊢
    rw [gb] at HX0 ⊢
    have Gb := Lib.hid gb
    clear gw0 gb
    have HDr : RowKit.Hid (Ext w0 w0.drew) := Lib.hid (below_drewN w0.heap.size w0 1)
    have Hnf : RowKit.Hid (¬ From_ w0.heap.size bb) := Lib.hid (show ¬ w0.heap.size ≤ bb by have := HbB.out; have := Hsz.out; omega)
    have ld0 : ∀ w', Kept (From_ w0.heap.size) w0.drew w' → w'.cell? ⟨bb, off, none⟩ = some (.int .u8 (a0 : Int)) := fun w' h => h.cell (show w0.drew.cell? _ = _ from l0) Hnf.out
    have ld1 : ∀ w', Kept (From_ w0.heap.size) w0.drew w' → w'.cell? ⟨bb, off + 1, none⟩ = some (.int .u8 (a1 : Int)) := fun w' h => h.cell (show w0.drew.cell? _ = _ from l1) Hnf.out
    have ld2 : ∀ w', Kept (From_ w0.heap.size) w0.drew w' → w'.cell? ⟨bb, off + 2, none⟩ = some (.int .u8 (a2 : Int)) := fun w' h => h.cell (show w0.drew.cell? _ = _ from l2) Hnf.out
    have ld3 : ∀ w', Kept (From_ w0.heap.size) w0.drew w' → w'.cell? ⟨bb, off + 3, none⟩ = some (.int .u8 (a3 : Int)) := fun w' h => h.cell (show w0.drew.cell? _ = _ from l3) Hnf.out
    refine wp_region_reg (From_ w0.heap.size) (by kernel_rfl) ?_
    refine opR_ 0 12 (v := ?_) ?_ ?_; rotate_left
    · intro w' hw'; go_simp; (try with_reducible rfl)
    simp only [st0_, st1_]
    refine opR_ 1 13 (v := ?_) ?_ ?_; rotate_left
    · intro w' hw'; go_simp; (try with_reducible rfl)
    simp only [st0_, st1_]
    refine opR_ 2 14 (v := ?_) ?_ ?_; rotate_left
    · intro w' hw'; go_simp; (try with_reducible rfl)
    simp only [st0_, st1_]
    refine opR_ 3 15 (v := ?_) ?_ ?_; rotate_left
    · intro w' hw'; go_simp; (try with_reducible rfl)
    simp only [st0_, st1_]
    refine opR_ 4 16 (v := ?_) ?_ ?_; rotate_left
    · intro w' hw'; go_simp; (try with_reducible rfl)
    simp only [st0_, st1_]
    refine opR_ 5 17 (v := ?_) ?_ ?_; rotate_left
    · intro w' hw'; go_simp; (try with_reducible rfl)
    simp only [st0_, st1_]
    refine opR_ 6 18 (v := ?_) ?_ ?_; rotate_left
    · intro w' hw'; go_simp; (try with_reducible rfl)
    simp only [st0_, st1_]
    refine opR_ 7 19 (v := ?_) ?_ ?_; rotate_left
    · intro w' hw'; go_simp; (try with_reducible rfl)
    simp only [st0_, st1_]
    refine opR_ 8 20 (v := ?_) ?_ ?_; rotate_left
    · intro w' hw'; go_simp; (try with_reducible rfl)
    simp only [st0_, st1_]
    refine opR_ 9 21 (v := ?_) ?_ ?_; rotate_left
    · intro w' hw'; go_simp; (try with_reducible rfl)
    simp only [st0_, st1_]
    refine opR_ 10 22 (v := ?_) ?_ ?_; rotate_left
    · intro w' hw'; go_simp; (try with_reducible rfl)
    simp only [st0_, st1_]
    refine opR_ 11 23 (v := ?_) ?_ ?_; rotate_left
    · intro w' hw'; go_simp; (try with_reducible rfl)
    simp only [st0_, st1_]
    refine opR_ 12 24 (v := ?_) ?_ ?_; rotate_left
    · intro w' hw'; go_simp; (try with_reducible rfl)
    simp only [st0_, st1_]
    refine opR_ 13 25 (v := ?_) ?_ ?_; rotate_left
    · intro w' hw'; go_simp; (try with_reducible rfl)
    simp only [st0_, st1_]
    refine opR_ 14 26 (v := ?_) ?_ ?_; rotate_left
    · intro w' hw'; go_simp; (try with_reducible rfl)
    simp only [st0_, st1_]
    refine opR_ 15 27 (v := ?_) ?_ ?_; rotate_left
    · intro w' hw'; go_simp; (try with_reducible rfl)
    simp only [st0_, st1_]
    refine opR_ 16 28 (v := ?_) ?_ ?_; rotate_left
    · intro w' hw'; go_simp; (try with_reducible rfl)
    simp only [st0_, st1_]
    refine opR_ 17 29 (v := ?_) ?_ ?_; rotate_left
    · intro w' hw'; go_simp; (try with_reducible rfl)
    simp only [st0_, st1_]
    refine opR_ 18 30 (v := ?_) ?_ ?_; rotate_left
    · intro w' hw'; go_simp; (try with_reducible rfl)
    simp only [st0_, st1_]
    refine opR_ 19 31 (v := ?_) ?_ ?_; rotate_left
    · intro w' hw'; go_simp; (try with_reducible rfl)
    simp only [st0_, st1_]
    refine opR_ 20 32 (v := ?_) ?_ ?_; rotate_left
    · intro w' hw'; go_simp; (try with_reducible rfl)
    simp only [st0_, st1_]
    apply wpR_run 21 (some 5)
    · rfl
    · rfl
    · kernel_rfl
    · rfl
    intro w' hw'
    refine ⟨.pointer (some ⟨w'.heap.size, 0, none⟩), w'.alloc (.cells #[.int .i64 0, .int .i64 0] 41), by (go_simp; first | done | exact rfl | exact ⟨rfl, rfl⟩), Kept.of_below (below1 _ _), ?_⟩
    have HE3 : RowKit.Hid (Ext w0 (w'.alloc (.cells #[.int .i64 0, .int .i64 0] 41))) := Lib.hid (Ext.trans (Ext.trans HDr.out hw') (below1 w' _))
    have HZ3 : RowKit.Hid (Whole (w'.alloc (.cells #[.int .i64 0, .int .i64 0] 41)) w'.heap.size 41 [.int .i64 0, .int .i64 0]) := Lib.hid (Whole.new_ _ _ [_, _])
    have HL3 : RowKit.Hid (w0.heap.size ≤ w'.heap.size) := Lib.hid (Ext.trans HDr.out hw').size
    obtain ⟨wa, gwa⟩ : ∃ z, w'.alloc (.cells #[.int .i64 0, .int .i64 0] 41) = z := ⟨_, rfl⟩
    obtain ⟨g5, gg5⟩ : ∃ z, w'.heap.size = z := ⟨_, rfl⟩
    rw [gwa] at HE3 HZ3 ⊢
    rw [gg5] at HZ3 HL3 ⊢
    clear gwa gg5 hw' 
    simp only [Act.put, stA_, st0_, st1_]
    apply wpR_store 22
    · rfl
    · rfl
    · kernel_rfl
    · rfl
    intro w' hw'
    refine ⟨w'.setRow g5 #[.int .i64 s, .int .i64 k], store_row_run 41 (.tmp 5) (.tmp 32) rfl g5 rfl [.int .i64 s, .int .i64 k] rfl 41 [.int .i64 0, .int .i64 0] (HZ3.out.bl hw') (by kernel_rfl) rfl (by simp [Value.oneCell']), kept_row (show w0.heap.size ≤ g5 from HL3.out) _, ?_⟩
    have HN4 : RowKit.Hid (g5 ≠ b) := Lib.hid (by have := HL3.out; have := HX0.out.lt; omega)
    have HZ4 : RowKit.Hid (Whole (w'.setRow g5 #[.int .i64 s, .int .i64 k]) g5 41 [.int .i64 s, .int .i64 k]) := Lib.hid (Whole.row (HZ3.out.bl hw') [_, _])
    have HX4 : RowKit.Hid (Whole (w'.setRow g5 #[.int .i64 s, .int .i64 k]) b 41 [.int .i64 0, .int .i64 0]) := Lib.hid (Whole.row_far (HX0.out.bl (Ext.trans HE3.out hw')) (Ne.symm HN4.out) _)
    have HB4 : RowKit.Hid (Below w.heap.size w (w'.setRow g5 #[.int .i64 s, .int .i64 k])) := Lib.hid (below_row (Ext.trans (Ext.trans HE0.out HE3.out) hw') (by have := HL3.out; have := HE0.out.size; omega) _)
    obtain ⟨wb, gwb⟩ : ∃ z, w'.setRow g5 #[.int .i64 s, .int .i64 k] = z := ⟨_, rfl⟩
    rw [gwb] at HZ4 HX4 HB4 ⊢
    clear gwb hw' HE3 HZ3 HX0 HE0 HL3
    try simp only [Act.put, stA_, st0_, st1_]
    refine wpR_done (by kernel_rfl) ?_ _
    intro w8 hw8
    have HX8 := Lib.hid (HX4.out.bl hw8)
    have HZ8 := Lib.hid (HZ4.out.bl hw8)
    have HB8 := Lib.hid (bel_bl HB4.out hw8)
    clear hw8 HX4 HZ4 HB4 ld0 ld1 ld2 ld3 l0 l1 l2 l3 Hnf HbB HDr v0 v1 v2 v3 m1 m2 m3 m4 hn0 hn1 hn2 hn3
    have d0 := HZ8.out.cell (i := 0) rfl
    have d1 := HZ8.out.cell (i := 1) rfl
    cases my with
    | false =>
      go_upto_region 5 with (first
        | (go_at_call 59
           refine (HMy.out _).mono ?_
           rintro e w9 ⟨rfl, hb9⟩
           have HX9 := Lib.hid (HX8.out.bl hb9)
           have HB9 : RowKit.Hid (Below w.heap.size w w9) := Lib.hid (bel_bl HB8.out hb9)
           clear hb9 d0 d1))
      have q0 := HX9.out.cell (i := 0) rfl
      have q1 := HX9.out.cell (i := 1) rfl
      have f0 := HX9.out.free 0
      have f1 := HX9.out.free 1
      go_wp2
      have HXz := (HX9.out.set_ 0 (.int .i64 0)).set_ 1 (.int .i64 0)
      have HBz := (HB9.out.setCell (p := ⟨b, 0, none⟩) (by show w.heap.size ≤ b; exact Nat.le_of_eq Gb.out) (.int .i64 0)).setCell (p := ⟨b, 1, none⟩) (by show w.heap.size ≤ b; exact Nat.le_of_eq Gb.out) (.int .i64 0)
      exact ret_whole3 rfl b rfl rfl rfl HXz Tryz.underlying41 rfl (by kernel_rfl) rfl (by
        unfold GivesRI
        rw [HT.out]
        exact ⟨0, 0, some ⟨bb, off, none⟩, n, c, a0 :: a1 :: a2 :: a3 :: K, rfl, HR.out.up HBz HBz.size, ⟨0, rfl⟩, fun e => (by cases e), fun a' e => ⟨a', e, rfl⟩, HBz⟩)
    | true =>
      go_upto_region 7 with (first
        | (go_at_call 59
           refine (HMy.out _).mono ?_
           rintro e w9 ⟨rfl, hb9⟩
           have HX9 := Lib.hid (HX8.out.bl hb9)
           have HZ9 := Lib.hid (HZ8.out.bl hb9)
           have HB9 : RowKit.Hid (Below w.heap.size w w9) := Lib.hid (bel_bl HB8.out hb9)
           clear hb9 d0 d1))
      have HD9 : RowKit.Hid (Ext w9 w9.drew) := Lib.hid (below_drewN w9.heap.size w9 1)
      have ld0 : ∀ w', Kept (fun i => i = b) w9.drew w' → w'.cell? ⟨g5, 0, none⟩ = some (.int .i64 s) := fun w' h => h.cell (HZ9.out.dr.cell (i := 0) rfl) HN4.out
      have ld1 : ∀ w', Kept (fun i => i = b) w9.drew w' → w'.cell? ⟨g5, 1, none⟩ = some (.int .i64 k) := fun w' h => h.cell (HZ9.out.dr.cell (i := 1) rfl) HN4.out
      refine wp_region_reg (fun i => i = b) (by kernel_rfl) ?_
      refine opR_ 0 39 (v := ?_) ?_ ?_; rotate_left
      · intro w' hw'; go_simp; (try with_reducible rfl)
      simp only [st0_, st1_]
      refine opR_ 1 40 (v := ?_) ?_ ?_; rotate_left
      · intro w' hw'; go_simp; (try with_reducible rfl)
      simp only [st0_, st1_]
      refine opX_ 2 41 ?_
      apply Exists.intro
      apply And.intro
      · apply yr_run; rfl; intro w' hw'; exact exec_slice_low_as 27 5 (.tmp 40) (.const (.int .i64 4)) rfl Tryz.underlying27 (s := 1) (by kernel_rfl) rfl rfl Hm4.out.1 HAr.out Hm4.out.2 rfl
      simp only [st0_, st1_]
      apply wpR_store 3
      · rfl
      · rfl
      · kernel_rfl
      · rfl
      intro w' hw'
      refine ⟨w'.setRow b #[.int .i64 s, .int .i64 k], store_row_run 41 (.tmp 2) (.tmp 39) rfl b rfl [.int .i64 s, .int .i64 k] rfl 41 [.int .i64 0, .int .i64 0] (HX9.out.bl (Ext.trans HD9.out hw')) (by kernel_rfl) rfl (by simp [Value.oneCell']), kept_setRow (S := fun i => i = b) w' b rfl _, ?_⟩
      have HX10 : RowKit.Hid (Whole (w'.setRow b #[.int .i64 s, .int .i64 k]) b 41 [.int .i64 s, .int .i64 k]) := Lib.hid (Whole.row (HX9.out.bl (Ext.trans HD9.out hw')) [_, _])
      have HB10 : RowKit.Hid (Below w.heap.size w (w'.setRow b #[.int .i64 s, .int .i64 k])) := Lib.hid (below_row (bel_bl HB9.out (Ext.trans HD9.out hw')) (Nat.le_of_eq Gb.out) _)
      clear hw' 
      try simp only [Act.put, stA_, st0_, st1_]
      refine opR_ 4 3 (v := ?_) ?_ ?_; rotate_left
      · intro w' hw'; go_simp; (try with_reducible rfl)
      simp only [st0_, st1_]
      refine opR_ 5 4 (v := ?_) ?_ ?_; rotate_left
      · intro w' hw'; go_simp; (try with_reducible rfl)
      simp only [st0_, st1_]
      refine wpR_done (by kernel_rfl) ?_ _
      intro w11 hw11
      have HX11 := Lib.hid (HX10.out.bl hw11)
      have HB11 := Lib.hid (bel_bl HB10.out hw11)
      clear hw11
      go_wp2
      exact ret_whole3 rfl b rfl rfl rfl HX11.out Tryz.underlying41 rfl (by kernel_rfl) rfl (by
        unfold GivesRI
        rw [HT.out, HN.out]
        exact ⟨s, k, A1, r, c - 4, K, rfl, HLow.out.up HB11.out HB11.out.size, ⟨4, rfl⟩, fun _ => ⟨rfl, rfl⟩, lies_low HAr.out, HB11.out⟩)
end Go.Proofs.YtmkflebkifbpfaaGreat
/- The document's reader of a head. -/
namespace Go.Proofs.YtmkflebkifbpfaaGreat
open Go.RowKit
/-- What the document's reader of a head tells. -/
def GivesRH (w : World) (A0 : Option Addr) (L : List Nat) (e : Ending) (w' : World) : Prop :=
  ∃ x1 x2 s t A' n' c' R, e = .returned (.tuple #[.agg #[.int .i64 x1, .int .i64 x2, .string s, .int .i64 t], .slice A' n' c', .bool (thT L)]) ∧ RdS w' w'.heap.size 1 A' n' c' (rowsV f8 R) ∧ (∃ j, R = L.drop j) ∧ (thT L = true → ((x1, x2), s, t) = rdE L ∧ R = rdH L) ∧ Lies A0 A' ∧ Below w.heap.size w w'
theorem leT_drop (L : List Nat) : ∃ j, leT L = L.drop j := by
  unfold leT
  split
  · exact ⟨_, rfl⟩
  · exact ⟨0, rfl⟩
/-- A box that turns is none of the bytes. -/
theorem rds_box8 {W : World} {A : Option Addr} {n c g i : Nat} {L : List Nat} {T : TypeId} {cs : List Value} {v : Value} (h : RdS W W.heap.size 1 A n c (rowsV f8 L)) (hw : Whole W g T cs) (hc : cs[i]? = some v) (hv : ∀ b : Nat, v ≠ .int .u8 (b : Int)) (u : Value) : RdS (W.setCell ⟨g, i, none⟩ u) (W.setCell ⟨g, i, none⟩ u).heap.size 1 A n c (rowsV f8 L) := by
  rw [size_setCell]
  exact rds_poke h (hw.cell hc) (fun hm => by
    rw [rowsV_map8] at hm
    obtain ⟨x, _, hx⟩ := List.mem_map.1 hm
    exact hv x hx.symm) u
set_option maxRecDepth 100000 in
set_option maxHeartbeats 4000000 in
theorem rthing_any (A : Option Addr) (n c : Nat) (L : List Nat) (w : World) (h : RdS w w.heap.size 1 A n c (rowsV f8 L)) (hb : ∀ b ∈ L, b < 256) (hn : n ≤ 100000) :
    Calls Tryz.prog 22 #[.slice A n c] w (GivesRH w A L) := by
  have hl : L.length = n := h.rlen f8_len (by decide)
  have HR := Lib.hid h
  have Hb := Lib.hid hb
  have HX0 : RowKit.Hid (Whole (w.alloc (.cells #[.int .i64 0, .int .i64 0, .string { data := #[] }, .int .i64 0] 43)) w.heap.size 43 [.int .i64 0, .int .i64 0, .string { data := #[] }, .int .i64 0]) := Lib.hid (Whole.new_ _ _ [_, _, _, _])
  have HE0 : RowKit.Hid (Ext w (w.alloc (.cells #[.int .i64 0, .int .i64 0, .string { data := #[] }, .int .i64 0] 43))) := Lib.hid (below1 w _)
  have HC1 : RowKit.Hid (∀ W, RdS W W.heap.size 1 A n c (rowsV f8 L) → Calls Tryz.prog 34 #[.slice A n c] W (GivesRI W A L)) := Lib.hid (fun W h => ridtake_any A n c L W h hb hn)
  have Hl := Lib.hid hl
  clear h hb hl
  go_enter Tryz.func22, Tryz.ntmps22
  go_upto_region 1 with fail
  have HR0 := Lib.hid (HR.out.bl HE0.out)
  obtain ⟨w0, gw0⟩ : ∃ z, w.alloc (.cells #[.int .i64 0, .int .i64 0, .string { data := #[] }, .int .i64 0] 43) = z := ⟨_, rfl⟩
  obtain ⟨b, gb⟩ : ∃ z, w.heap.size = z := ⟨_, rfl⟩
  rw [gw0] at HX0 HE0 HR0 ⊢
  rw [gb] at HX0 ⊢
  have Gb := Lib.hid gb
  clear gw0 gb HR
  go_upto_region 2 with (first
    | (go_at_call 34
       refine (HC1.out _ HR0.out).mono ?_
       rintro e w1 ⟨x1, x2, A1, n1, c1_, R1, rfl, hr1, ht1, hk1, hy1, hb1⟩
       have hE : Ext w1 (w1.alloc (.cells #[.int .i64 x1, .int .i64 x2] 41)) := below1 w1 _
       have HX1 := Lib.hid ((HX0.out.bl hb1).bl hE)
       have HB1 : RowKit.Hid (Ext w (w1.alloc (.cells #[.int .i64 x1, .int .i64 x2] 41))) := Lib.hid (Ext.trans (Ext.trans HE0.out hb1) hE)
       have HZ1 : RowKit.Hid (Whole (w1.alloc (.cells #[.int .i64 x1, .int .i64 x2] 41)) w1.heap.size 41 [.int .i64 x1, .int .i64 x2]) := Lib.hid (Whole.new_ _ _ [_, _])
       have HR1 := Lib.hid (hr1.bl hE)
       have HT1 := Lib.hid ht1
       have HK1 := Lib.hid hk1
       have HY1 := Lib.hid hy1
       clear hr1 ht1 hk1 hy1 hb1 hE))
  clear HX0 HE0 HR0 HC1
  obtain ⟨w2, gw2⟩ : ∃ z, w1.alloc (.cells #[.int .i64 x1, .int .i64 x2] 41) = z := ⟨_, rfl⟩
  obtain ⟨g5, gg5⟩ : ∃ z, w1.heap.size = z := ⟨_, rfl⟩
  rw [gw2] at HX1 HB1 HZ1 HR1 ⊢
  rw [gg5] at HZ1 ⊢
  clear gw2 gg5
  have hb1 : ∀ x ∈ R1, x < 256 := fun x hx => by
    obtain ⟨j, rfl⟩ := HT1.out
    exact Hb.out x (List.mem_of_mem_drop hx)
  have hn1 : n1 ≤ 100000 := by
    have h1 := HR1.out.rlen f8_len (by decide)
    obtain ⟨j, rfl⟩ := HT1.out
    rw [List.length_drop, Hl.out] at h1
    omega
  have HC2 : RowKit.Hid (∀ W, RdS W W.heap.size 1 A1 n1 c1_ (rowsV f8 R1) → Calls Tryz.prog 35 #[.slice A1 n1 c1_] W fun e w' => ∃ A' n' c', e = .returned (.tuple #[.string (txT R1), .slice A' n' c', .bool (isT R1)]) ∧ RdS w' w'.heap.size 1 A' n' c' (rowsV f8 (leT R1)) ∧ Lies A1 A' ∧ Below W.heap.size W w') := Lib.hid (fun W h => by
    have hl1 := h.rlen f8_len (by decide)
    subst hl1
    refine (rtaketext_blk A1 c1_ R1 W h hn1 hb1).mono ?_
    rintro e w' ⟨A', n', c', rfl, -, hr, hy, hb⟩
    exact ⟨A', n', c', rfl, hr, hy, hb⟩)
  have HL1 : RowKit.Hid (R1.length = n1) := Lib.hid (HR1.out.rlen f8_len (by decide))
  obtain ⟨M, gM⟩ : ∃ z, leT R1 = z := ⟨_, rfl⟩
  obtain ⟨tx, gtx⟩ : ∃ z, txT R1 = z := ⟨_, rfl⟩
  obtain ⟨k2, gk2⟩ : ∃ z, isT R1 = z := ⟨_, rfl⟩
  rw [gM, gtx, gk2] at HC2
  have HM : RowKit.Hid (leT R1 = M ∧ txT R1 = tx ∧ isT R1 = k2) := Lib.hid ⟨gM, gtx, gk2⟩
  have HMj : RowKit.Hid (∃ j, M = L.drop j) := Lib.hid (by
    obtain ⟨j1, h1⟩ := HT1.out
    obtain ⟨j2, h2⟩ := leT_drop R1
    rw [← gM, h2, h1, List.drop_drop]
    exact ⟨_, rfl⟩)
  have HM8 : RowKit.Hid (∀ x ∈ M, x < 256) := Lib.hid (fun x hx => by
    obtain ⟨j, rfl⟩ := HMj.out
    exact Hb.out x (List.mem_of_mem_drop hx))
  have HMl : RowKit.Hid (M.length ≤ 100000) := Lib.hid (by
    obtain ⟨j, rfl⟩ := HMj.out
    rw [List.length_drop, Hl.out]
    omega)
  clear hb1 hn1 gM gtx gk2
  go_upto_region 3 with (first
    | (go_at_call 35
       refine (HC2.out _ HR1.out).mono ?_
       rintro e w3 ⟨A3, n3, c3, rfl, hr3, hy3, hb3⟩
       have HX3 := Lib.hid (HX1.out.bl hb3)
       have HZ3 := Lib.hid (HZ1.out.bl hb3)
       have HB3 : RowKit.Hid (Ext w w3) := Lib.hid (Ext.trans HB1.out hb3)
       have HR3 := Lib.hid hr3
       have HY3 := Lib.hid hy3
       clear hr3 hy3 hb3))
  clear HX1 HB1 HZ1 HR1 HC2
  have hn3 : n3 ≤ 100000 := by
    have h1 := HR3.out.rlen f8_len (by decide)
    have := HMl.out
    omega
  obtain ⟨av, gav⟩ : ∃ z, (if 8 ≤ M.length then num8 (M.take 8) else 0) = z := ⟨_, rfl⟩
  obtain ⟨Rn, gRn⟩ : ∃ z, (if 8 ≤ M.length then M.drop 8 else M) = z := ⟨_, rfl⟩
  obtain ⟨k3, gk3⟩ : ∃ z, decide (8 ≤ M.length) = z := ⟨_, rfl⟩
  have HC3 : RowKit.Hid (∀ W, RdS W W.heap.size 1 A3 n3 c3 (rowsV f8 M) → Calls Tryz.prog 36 #[.slice A3 n3 c3] W fun e w' => ∃ A' n' c', e = .returned (.tuple #[.int .i64 av, .slice A' n' c', .bool k3]) ∧ RdS w' w'.heap.size 1 A' n' c' (rowsV f8 Rn) ∧ Lies A3 A' ∧ Below W.heap.size W w') := Lib.hid (fun W h => by
    have h9 := rtakenum_blk A3 n3 c3 M W h hn3 HM8.out
    unfold GivesRN2 at h9
    rw [gav, gRn, gk3] at h9
    refine h9.mono ?_
    rintro e w' ⟨A', n', c', rfl, -, hr, hy, hb⟩
    exact ⟨A', n', c', rfl, hr, hy, hb⟩)
  have HRj : RowKit.Hid (∃ j, Rn = L.drop j) := Lib.hid (by
    obtain ⟨j1, h1⟩ := HMj.out
    rw [← gRn]
    split
    · rw [h1, List.drop_drop]
      exact ⟨_, rfl⟩
    · exact ⟨j1, h1⟩)
  have HN : RowKit.Hid (k3 = true → av = num8 (M.take 8) ∧ Rn = M.drop 8) := Lib.hid (fun e => by
    rw [e] at gk3
    have h8 := of_decide_eq_true gk3
    rw [if_pos h8] at gav gRn
    exact ⟨gav.symm, gRn.symm⟩)
  have HK3 := Lib.hid gk3
  clear gav gRn gk3 hn3
  go_upto_region 4 with (first
    | (go_at_call 36
       refine (HC3.out _ HR3.out).mono ?_
       rintro e w4 ⟨A4, n4, c4, rfl, hr4, hy4, hb4⟩
       have HX4 := Lib.hid (HX3.out.bl hb4)
       have HZ4 := Lib.hid (HZ3.out.bl hb4)
       have HB4 : RowKit.Hid (Ext w w4) := Lib.hid (Ext.trans HB3.out hb4)
       have HR4 := Lib.hid hr4
       have HY4 := Lib.hid hy4
       clear hr4 hy4 hb4))
  clear HX3 HZ3 HB3 HR3 HC3
  have HTh : RowKit.Hid (thT L = (idT L && (k2 && k3)) ∧ (thT L = true → ((x1, x2), tx, av) = rdE L ∧ Rn = rdH L)) := Lib.hid (by
    have e1 : thT L = (idT L && (k2 && k3)) := by
      unfold thT
      cases hi : idT L with
      | false => rfl
      | true =>
        have h1 := (HK1.out hi).2
        rw [← h1, HM.out.1, HM.out.2.2, HK3.out]
    refine ⟨e1, fun e => ?_⟩
    have h9 := e
    rw [e1, Bool.and_eq_true, Bool.and_eq_true] at h9
    obtain ⟨q1, q2, q3⟩ := h9
    obtain ⟨p1, p2⟩ := HK1.out q1
    obtain ⟨r1, r2, r3, r4⟩ := thT_ok e
    obtain ⟨s1, s2⟩ := HN.out q3
    have hm : leT (L.drop 4) = M := by rw [← p2]; exact HM.out.1
    have ht : txT (L.drop 4) = tx := by rw [← p2]; exact HM.out.2.1
    rw [hm] at r3 r4
    rw [ht] at r2
    exact ⟨by unfold rdE; rw [r1, r2, r3, ← p1, s1], by rw [r4, s2]⟩)
  obtain ⟨k1, gk1⟩ : ∃ z, idT L = z := ⟨_, rfl⟩
  rw [gk1] at HTh ⊢
  clear gk1 HK1 HM HK3 HN HT1 HL1
  have d0 := HZ4.out.cell (i := 0) rfl
  have d1 := HZ4.out.cell (i := 1) rfl
  have q0 := HX4.out.cell (i := 0) rfl
  have q1 := HX4.out.cell (i := 1) rfl
  have q2 := HX4.out.cell (i := 2) rfl
  have q3 := HX4.out.cell (i := 3) rfl
  have f0 := HX4.out.free 0
  have f1 := HX4.out.free 1
  have f2 := HX4.out.free 2
  have f3 := HX4.out.free 3
  have HXz := Lib.hid ((((HX4.out.set_ 0 (.int .i64 x1)).set_ 1 (.int .i64 x2)).set_ 2 (.string tx)).set_ 3 (.int .i64 av))
  have hlo : w.heap.size ≤ b := Nat.le_of_eq Gb.out
  have HBz := Lib.hid (((((show Below w.heap.size w w4 from HB4.out).setCell (p := ⟨b, 0, none⟩) hlo (.int .i64 x1)).setCell (p := ⟨b, 1, none⟩) hlo (.int .i64 x2)).setCell (p := ⟨b, 2, none⟩) hlo (.string tx)).setCell (p := ⟨b, 3, none⟩) hlo (.int .i64 av))
  have hr0 := rds_box8 (i := 0) HR4.out HX4.out rfl (fun b e => by cases e) (.int .i64 x1)
  have hr1 := rds_box8 (i := 1) hr0 (HX4.out.set_ 0 (.int .i64 x1)) rfl (fun b e => by cases e) (.int .i64 x2)
  have hr2 := rds_box8 (i := 2) hr1 ((HX4.out.set_ 0 (.int .i64 x1)).set_ 1 (.int .i64 x2)) rfl (fun b e => by cases e) (.string tx)
  have HRz := Lib.hid (rds_box8 (i := 3) hr2 (((HX4.out.set_ 0 (.int .i64 x1)).set_ 1 (.int .i64 x2)).set_ 2 (.string tx)) rfl (fun b e => by cases e) (.int .i64 av))
  clear hr0 hr1 hr2
  clear hlo
  cases k1 <;> cases k2 <;> (go_wp2; exact ret_whole3 rfl b rfl rfl rfl HXz.out Tryz.underlying43 rfl (by kernel_rfl) rfl (by
    unfold GivesRH
    rw [HTh.out.1]
    exact ⟨x1, x2, tx, av, A4, n4, c4, Rn, rfl, HRz.out, HRj.out, fun e => HTh.out.2 (HTh.out.1.trans e), (HY1.out.trans HY3.out).trans HY4.out, HBz.out⟩))
end Go.Proofs.YtmkflebkifbpfaaGreat
/- The document's Take: what it keeps while it goes. -/
namespace Go.Proofs.YtmkflebkifbpfaaGreat
open Go.RowKit
structure Rk (w W : World) (b0 d : Nat) (cs : List Value) : Prop where
  b : Below w.heap.size w W
  x0 : Whole W b0 25 [.slice none 0 0, .slice none 0 0]
  x2 : Whole W d 25 cs
  n : b0 ≠ d ∧ w.heap.size ≤ d ∧ w.heap.size ≤ b0
/-- The bytes that are left. -/
structure Bt (w W : World) (A : Option Addr) (n c : Nat) (L R : List Nat) : Prop where
  r : RdS W W.heap.size 1 A n c (rowsV f8 R)
  lo : ∀ a, A = some a → 0 < n → a.block < w.heap.size
  j : ∃ j, R = L.drop j
section
variable {w W W' : World} {b0 d : Nat} {cs : List Value} {A : Option Addr} {n c : Nat} {L R : List Nat}
theorem Rk.bl (h : Rk w W b0 d cs) (hb : Ext W W') : Rk w W' b0 d cs := ⟨bel_bl h.b hb, h.x0.bl hb, h.x2.bl hb, h.n⟩
theorem Rk.al (h : Rk w W b0 d cs) (o : Obj) : Rk w (W.alloc o) b0 d cs := h.bl (below1 W o)
theorem Rk.own (h : Rk w W b0 d cs) {T : TypeId} {A : Option Addr} {n c k lo : Nat} {xs : List Value} (ho : W.ownsRow lo T k (.slice A n c) n xs) (hlo : w.heap.size ≤ lo) (h1 : 25 ≠ T) (hg : W.grownBy W' (Value.slice A n c).ownBlock) : Rk w W' b0 d cs :=
  ⟨Below.grown h.b hg h.b.size (fun kk e => Nat.le_trans hlo (ho.lt kk e).1), h.x0.grown hg (own_ne ho h.x0 h1), h.x2.grown hg (own_ne ho h.x2 h1), h.n⟩
theorem Rk.setd (h : Rk w W b0 d cs) (i : Nat) (u : Value) : Rk w (W.setCell ⟨d, i, none⟩ u) b0 d (cs.set i u) :=
  ⟨h.b.setCell (p := ⟨d, i, none⟩) h.n.2.1 u, h.x0.set_far' h.n.1 u, h.x2.set_ i u, h.n⟩
theorem Rk.setx (h : Rk w W b0 d cs) {x i : Nat} {t : TypeId} {cx : List Value} (hx : Whole W x t cx) (h1 : t ≠ 25) (hlo : w.heap.size ≤ x) (u : Value) : Rk w (W.setCell ⟨x, i, none⟩ u) b0 d cs :=
  ⟨h.b.setCell (p := ⟨x, i, none⟩) hlo u, h.x0.set_far' (h.x0.ne_ hx (Ne.symm h1)) u, h.x2.set_far' (h.x2.ne_ hx (Ne.symm h1)) u, h.n⟩
theorem Bt.bl (h : Bt w W A n c L R) (hb : Ext W W') : Bt w W' A n c L R := ⟨h.r.bl hb, h.lo, h.j⟩
theorem Bt.al (h : Bt w W A n c L R) (o : Obj) : Bt w (W.alloc o) A n c L R := h.bl (below1 W o)
theorem Bt.own (h : Bt w W A n c L R) {T : TypeId} {A1 : Option Addr} {n1 c1 k lo : Nat} {xs : List Value} (ho : W.ownsRow lo T k (.slice A1 n1 c1) n1 xs) (hlo : w.heap.size ≤ lo) (hg : W.grownBy W' (Value.slice A1 n1 c1).ownBlock) : Bt w W' A n c L R :=
  ⟨h.r.grown hg (fun a ha hn e => by have h1 := h.lo a ha hn; have h2 := (ho.lt a.block e.symm).1; omega), h.lo, h.j⟩
theorem Bt.set (h : Bt w W A n c L R) {g i : Nat} (hg : w.heap.size ≤ g) (u : Value) : Bt w (W.setCell ⟨g, i, none⟩ u) A n c L R :=
  ⟨h.r.far (p := ⟨g, i, none⟩) (fun hn a ha e => by have h1 := h.lo a ha hn; have e2 : a.block = g := e; omega) u, h.lo, h.j⟩
theorem Bt.byte (h : Bt w W A n c L R) (hb : ∀ b ∈ L, b < 256) : ∀ b ∈ R, b < 256 := fun b hx => by
  obtain ⟨j, e⟩ := h.j
  rw [e] at hx
  exact hb b (List.mem_of_mem_drop hx)
theorem Bt.len (h : Bt w W A n c L R) : R.length = n ∧ n ≤ L.length := by
  have h1 := h.r.rlen f8_len (by decide)
  obtain ⟨j, e⟩ := h.j
  rw [e, List.length_drop] at h1
  exact ⟨by rw [e, List.length_drop]; exact h1, by omega⟩
/-- What a call leaves of the bytes. -/
theorem Bt.next (h : Bt w W A n c L R) {A' : Option Addr} {n' c' : Nat} {R' : List Nat} (hr : RdS W' W'.heap.size 1 A' n' c' (rowsV f8 R')) (hj : ∃ j, R' = R.drop j) (hy : Lies A A') : Bt w W' A' n' c' L R' := by
  have h1 := h.len
  have h2 := hr.rlen f8_len (by decide)
  obtain ⟨j, e⟩ := hj
  obtain ⟨j0, e0⟩ := h.j
  refine ⟨hr, fun a ha hn => ?_, ⟨j0 + j, by rw [e, e0, List.drop_drop]⟩⟩
  obtain ⟨a0, q1, q2⟩ := hy a ha
  rw [← q2]
  refine h.lo a0 q1 ?_
  rw [e, List.length_drop] at h2
  omega
end
/-- While edges are read from bytes that are a diagram's. -/
theorem step_e {Ws : List VC} {Es : List EC} {Us : List VS} {i : Nat} (hf : Formed Ws Es) (hi : i < Es.length) : ∃ e, Es[i]? = some e ∧ thT (restE Es Us i) = true ∧ rdE (restE Es Us i) = e ∧ rdH (restE Es Us i) = restE Es Us (i + 1) := by
  obtain ⟨e, he⟩ : ∃ e, Es[i]? = some e := ⟨_, List.getElem?_eq_getElem hi⟩
  have hok := hf.okE e (List.mem_of_getElem? he)
  rw [restE_next he]
  exact ⟨e, he, thT_head hok, by unfold rdE; rw [rd_id hok, rd_tx hok, rd_at hok], rd_h hok _⟩
theorem step_v {Ws : List VC} {Es : List EC} {i : Nat} (hf : Formed Ws Es) (hi : i < Ws.length) : ∃ v, (Ws.map vS)[i]? = some v ∧ okV Es v ∧ v.2.1.length ≤ 80 ∧ thT (restV Es (Ws.map vS) i) = true ∧ rdE (restV Es (Ws.map vS) i) = (v.1, v.2.2.1, v.2.2.2) ∧ rdH (restV Es (Ws.map vS) i) = v.2.1.length % 256 :: (v.2.1.map (dB Es) ++ restV Es (Ws.map vS) (i + 1)) := by
  obtain ⟨x, hx⟩ : ∃ x, Ws[i]? = some x := ⟨_, List.getElem?_eq_getElem hi⟩
  have hm := List.mem_of_getElem? hx
  have hv := hf.okV (fun v hv => by have := hf.ring v hv; omega) (vS x) (List.mem_map.2 ⟨x, hm, rfl⟩)
  have hq : (Ws.map vS)[i]? = some (vS x) := by rw [List.getElem?_map, hx]; rfl
  refine ⟨vS x, hq, hv, hf.ring x hm, ?_⟩
  rw [restV_next hq]
  exact ⟨thT_head hv.1, by unfold rdE; rw [rd_id hv.1, rd_tx hv.1, rd_at hv.1], by rw [rd_h hv.1]; rfl⟩
end Go.Proofs.YtmkflebkifbpfaaGreat
/- The document's Take. -/
namespace Go.Proofs.YtmkflebkifbpfaaGreat
open Go.RowKit
def GE (Es : List EC) : Prop := ∀ e ∈ Es, In64 e.1.1 ∧ In64 e.1.2 ∧ e.2.1.size ≤ 1000
def GV (Ws : List VC) : Prop := ∀ x ∈ Ws, x.2.1.2.2.2.length ≤ 255 ∧ x.2.2.1.size ≤ 1000 ∧ ∀ d ∈ x.2.1.2.2.2, In64 d.1 ∧ In64 d.2.1 ∧ In64 d.2.2
theorem good_of {Ws : List VC} {Es : List EC} (hE : GE Es) (hV : GV Ws) : GoodD Ws Es := by
  have z0 : In64 0 ∧ In64 1 := ⟨by unfold In64; omega, by unfold In64; omega⟩
  refine ⟨fun x hx d hd => ?_, fun e he => ?_, fun x hx => ?_, fun e he => ?_⟩
  · have := (hV x hx).2.2 d hd
    exact ⟨wf64 this.1, wf64 this.2.1, wf64 this.2.2⟩
  · have := hE e he
    exact ⟨⟨wf64 this.1, wf64 this.2.1, wf64 z0.1⟩, ⟨wf64 this.1, wf64 this.2.1, wf64 z0.2⟩⟩
  · have := (hV x hx).2.1
    unfold maxLen
    omega
  · have := (hE e he).2.2
    unfold maxLen
    omega
theorem rest_end (Es : List EC) (Us : List VS) : restE Es Us Es.length = Us.length % 256 :: restV Es Us 0 := by
  unfold restE
  rw [List.drop_eq_nil_of_le (Nat.le_refl _)]
  rfl
theorem dart_lt {Es : List EC} {d : D} (h1 : (d.1, d.2.1) ∈ Es.map (·.1)) (h2 : d.2.2 = 0 ∨ d.2.2 = 1) (h3 : Es.length ≤ 40) : dB Es d % 128 < Es.length := by
  have h4 : plE Es (d.1, d.2.1) < Es.length := by
    have := List.idxOf_lt_length_of_mem h1
    rw [List.length_map] at this
    exact this
  unfold dB
  rcases h2 with h2 | h2 <;> rw [h2]
  · show (plE Es (d.1, d.2.1) + 128 * 0) % 256 % 128 < Es.length
    omega
  · show (plE Es (d.1, d.2.1) + 128 * 1) % 256 % 128 < Es.length
    omega
theorem ring_back {Es : List EC} (h3 : Es.length ≤ 40) : ∀ {L : List D}, (∀ d ∈ L, (d.1, d.2.1) ∈ Es.map (·.1) ∧ (d.2.2 = 0 ∨ d.2.2 = 1)) → (L.map (dB Es)).map (rdD Es) = L
  | [], _ => rfl
  | d :: L, h => by
    rw [List.map_cons, List.map_cons, ring_back h3 (fun d hd => h d (List.mem_cons_of_mem _ hd)), rd_d (h d (by simp)).1 (h d (by simp)).2 h3]
/-- What the document's Take tells. -/
def GivesTR (w : World) (L : List Nat) (e : Ending) (w' : World) : Prop :=
  Below w.heap.size w w' ∧ ((okT L ∧ ∃ A' n' c' B' m' k' Ws, e = .returned (.tuple #[.agg #[.slice A' n' c', .slice B' m' k'], .int .i64 0]) ∧ DgIn w' A' n' c' Ws B' m' k' (rdAE L) ∧ Ws.map vS = rdAV L) ∨ (¬ okT L ∧ e = .returned (.tuple #[.agg #[.slice none 0 0, .slice none 0 0], .int .i64 2])))
theorem GivesTR.no {w w' : World} {L : List Nat} (hb : Below w.heap.size w w') (h : ¬ okT L) : GivesTR w L (.returned (.tuple #[.agg #[.slice none 0 0, .slice none 0 0], .int .i64 2])) w' := ⟨hb, .inr ⟨h, rfl⟩⟩
set_option maxRecDepth 100000 in
set_option maxHeartbeats 4000000 in
theorem rtake_any (A : Option Addr) (n c : Nat) (L : List Nat) (w : World) (h : RdS w w.heap.size 1 A n c (rowsV f8 L)) (hb : ∀ b ∈ L, b < 256) (hn : n ≤ 100000) :
    Calls Tryz.prog 10 #[.slice A n c] w (GivesTR w L) := by
  have hl : L.length = n := h.rlen f8_len (by decide)
  have HRw := Lib.hid h
  have Hlow : RowKit.Hid (∀ a, A = some a → 0 < n → a.block < w.heap.size) := Lib.hid h.low
  have Hb := Lib.hid hb
  have Hl := Lib.hid hl
  have Hok := Lib.hid (okT_is (L := L))
  obtain ⟨Ef, gEf⟩ : ∃ z, rdAE L = z := ⟨_, rfl⟩
  obtain ⟨Uf, gUf⟩ : ∃ z, rdAV L = z := ⟨_, rfl⟩
  rw [gEf, gUf] at Hok
  have HEf := Lib.hid gEf
  have HUf := Lib.hid gUf
  clear gEf gUf h hb
  go_enter Tryz.func10, Tryz.ntmps10
  go_upto_region 2 with fail
  have hx0 : Whole ((w.alloc (.cells #[.slice none 0 0, .slice none 0 0] 25)).alloc (.cells #[.slice none 0 0, .slice none 0 0] 25)) (w.heap.size) 25 [.slice none 0 0, .slice none 0 0] := ((Whole.new_ w 25 [.slice none 0 0, .slice none 0 0]).alloc (.cells #[.slice none 0 0, .slice none 0 0] 25))
  have hx1 : Whole ((w.alloc (.cells #[.slice none 0 0, .slice none 0 0] 25)).alloc (.cells #[.slice none 0 0, .slice none 0 0] 25)) (w.heap.size + 1) 25 [.slice none 0 0, .slice none 0 0] := (Whole.new2 (w := (w.alloc (.cells #[.slice none 0 0, .slice none 0 0] 25))) (by simp))
  have hbl : Below w.heap.size w ((w.alloc (.cells #[.slice none 0 0, .slice none 0 0] 25)).alloc (.cells #[.slice none 0 0, .slice none 0 0] 25)) := (bel_al (below1 w (.cells #[.slice none 0 0, .slice none 0 0] 25)) (.cells #[.slice none 0 0, .slice none 0 0] 25))
  have hsz : w.heap.size + 1 + 1 ≤ (((w.alloc (.cells #[.slice none 0 0, .slice none 0 0] 25)).alloc (.cells #[.slice none 0 0, .slice none 0 0] 25))).heap.size := by simp
  obtain ⟨W0, gW0⟩ : ∃ z, ((w.alloc (.cells #[.slice none 0 0, .slice none 0 0] 25)).alloc (.cells #[.slice none 0 0, .slice none 0 0] 25)) = z := ⟨_, rfl⟩
  rw [gW0] at hx0 hx1 hbl hsz
  obtain ⟨b1, gb1⟩ : ∃ z, w.heap.size + 1 = z := ⟨_, rfl⟩
  rw [gb1] at hx1
  obtain ⟨b0, gb0⟩ : ∃ z, w.heap.size = z := ⟨_, rfl⟩
  rw [gb0] at hx0
  have HX0 := Lib.hid hx0
  have HX1 := Lib.hid hx1
  have HB0 := Lib.hid hbl
  have HS0 := Lib.hid hsz
  have Gb0 := Lib.hid gb0
  have Lb0 : RowKit.Hid (w.heap.size ≤ b0) := Lib.hid (by omega)
  have Gb1 := Lib.hid gb1
  have Lb1 : RowKit.Hid (w.heap.size ≤ b1) := Lib.hid (by omega)
  have N01 : RowKit.Hid (b0 ≠ b1) := Lib.hid (by omega)
  rw [gW0, gb1, gb0]
  clear gW0 hbl hsz hx0 hx1 gb0 gb1
  have HK : RowKit.Hid (Rk w W0 b0 b1 [.slice none 0 0, .slice none 0 0]) := Lib.hid ⟨HB0.out, HX0.out, HX1.out, ⟨N01.out, Lb1.out, Lb0.out⟩⟩
  have HT : RowKit.Hid (Bt w W0 A n c L L) := Lib.hid ⟨HRw.out.bl HB0.out, Hlow.out, ⟨0, rfl⟩⟩
  clear HX0 HX1 HB0 HS0 N01 Gb0 Gb1 Lb0 Lb1
  by_cases h1 : n < 1
  · have hno : ¬ okT L := fun q => by
      obtain ⟨Ws, -, -, -, e⟩ := Hok.out q
      have := Hl.out
      rw [e, List.length_cons] at this
      omega
    have hlt : (n : Int) < 1 := by omega
    have d0 := HK.out.x2.cell (i := 0) rfl
    have d1 := HK.out.x2.cell (i := 1) rfl
    have e0 := HK.out.x0.cell (i := 0) rfl
    have e1 := HK.out.x0.cell (i := 1) rfl
    have f0 := HK.out.x0.free 0
    have f1 := HK.out.x0.free 1
    go_wp2
    have HXz := (HK.out.x0.set_ 0 (.slice none 0 0)).set_ 1 (.slice none 0 0)
    have HBz := (HK.out.b.setCell (p := ⟨b0, 0, none⟩) HK.out.n.2.2 (.slice none 0 0)).setCell (p := ⟨b0, 1, none⟩) HK.out.n.2.2 (.slice none 0 0)
    exact ret_whole2 rfl b0 rfl rfl HXz Tryz.underlying25 rfl (by kernel_rfl) rfl (GivesTR.no HBz hno)
  obtain ⟨a0, K, gL⟩ : ∃ a0 K, L = a0 :: K := by
    cases L with
    | nil => simp at hl; omega
    | cons a K => exact ⟨a, K, rfl⟩
  have ha0 : a0 < 256 := Hb.out a0 (by rw [gL]; simp)
  have hlow := HT.out.r.low_ (k := 1) (by omega)
  rw [show (rowsV f8 L).drop (1 * 1) = rowsV f8 K from by rw [gL]; rfl] at hlow
  obtain ⟨A1, hA1⟩ : ∃ A1, (if c = 1 then A else A.map (·.add (1 * 1))) = A1 := ⟨_, rfl⟩
  rw [hA1] at hlow
  obtain ⟨n1, gn1⟩ : ∃ z, n - 1 = z := ⟨_, rfl⟩
  rw [gn1] at hlow
  have HT1 : RowKit.Hid (Bt w W0 A1 n1 (c - 1) L K) := Lib.hid (HT.out.next hlow ⟨1, by rw [gL]; rfl⟩ (lies_low hA1))
  obtain ⟨bb, off, gA, -, hp⟩ := byte_at HT.out.r (by omega)
  have l0 := hp 0 a0 (by rw [gL]; rfl)
  rw [Nat.add_zero] at l0
  subst gA
  have HAr := Lib.hid hA1
  have Hm1 : RowKit.Hid (1 ≤ n ∧ n - 1 = n1) := Lib.hid ⟨by omega, gn1⟩
  have v0 : IntKind.i64.wrap (a0 : Int) = (a0 : Int) := IntWalk.i64_in _ (by omega)
  have hge : ¬ (n : Int) < 1 := by omega
  have d5 : (0 : Int) < (n : Int) := by omega
  have d6 : 0 < n := by omega
  have HF : RowKit.Hid (okT L → ∃ Ws, Ws.map vS = Uf ∧ Formed Ws Ef ∧ Ef.length = a0 ∧ K = restE Ef Uf 0) := Lib.hid (fun q => by
    obtain ⟨Ws, e1, -, hf, e⟩ := Hok.out q
    rw [gL] at e
    injection e with e2 e3
    have := hf.e40
    exact ⟨Ws, e1, hf, by omega, e3⟩)
  clear hp hlow hA1 gn1 gL hl Hok
  go_upto_region 5 with fail
  clear l0 v0 hge d5 d6
  refine wp_region_lit ?_
  refine wl_read (v := ?_) (some 30) rfl (by rfl) ?_ ?_
  rotate_left
  · go_simp; (try with_reducible rfl)
  simp only [Act.put, stA_, st0_, st1_]
  refine wl_run (some 31) rfl (by rfl) (exec_slice_low_as 27 5 (.tmp 30) (.const (.int .i64 1)) rfl Tryz.underlying27 (s := 1) (by kernel_rfl) rfl rfl Hm1.out.1 HAr.out Hm1.out.2 rfl) ?_
  simp only [Act.put, stA_, st0_, st1_]
  have HO : RowKit.Hid (Ow w w.heap.size 43 4 (.slice none 0 0) 0 (rowsV eC []) W0) := Lib.hid ⟨World.ownsRow_nil _ _ _ _, HK.out.b, Nat.le_refl _, HK.out.b.size⟩
  clear HAr Hm1
  go_wp2
  go_loopw [6, 7] (fun rest si wr => ∃ (i : Nat) (B2 : Option Addr) (k2 : Nat) (Es : List EC) (Ar : Option Addr) (nr cr : Nat) (R : List Nat), i ≤ a0 ∧ si = .int .i64 i ∧ rest = .slice Ar nr cr ∧ RowKit.Hid (Rk w wr b0 b1 [.slice none 0 0, .slice B2 i k2]) ∧ RowKit.Hid (Ow w w.heap.size 43 4 (.slice B2 i k2) i (rowsV eC Es) wr) ∧ RowKit.Hid (Bt w wr Ar nr cr L R) ∧ RowKit.Hid (GE Es) ∧ RowKit.Hid (okT L → Es = Ef.take i ∧ R = restE Ef Uf i)) (fun _ si _ => a0 - (intOf si).toNat)
  case atStart => exact ⟨0, none, 0, [], A1, n1, c - 1, K, by omega, rfl, rfl, HK, HO, HT1, Lib.hid (fun e he => by cases he), Lib.hid (fun q => ⟨rfl, by obtain ⟨Ws, -, -, -, e⟩ := HF.out q; exact e⟩)⟩
  case round =>
    clear HK HO HT1 HT
    obtain ⟨i, B2, k2, Es, Ar, nr, cr, R, hi_, rfl, rfl, HK, HO, HT, HG, HI⟩ := hrel
    obtain ⟨wo, gwo⟩ : ∃ z, wr = z := ⟨_, rfl⟩
    rw [gwo] at HK HO HT ⊢
    clear gwo
    by_cases hin : i < a0
    · have hbR := HT.out.byte Hb.out
      have hnr : nr ≤ 100000 := by have := HT.out.len.2; have := Hl.out; omega
      have HC : RowKit.Hid (∀ W, RdS W W.heap.size 1 Ar nr cr (rowsV f8 R) → Calls Tryz.prog 22 #[.slice Ar nr cr] W (GivesRH W Ar R)) := Lib.hid (fun W h => rthing_any Ar nr cr R W h hbR hnr)
      have hgE : In64 (rdE R).1.1 ∧ In64 (rdE R).1.2 ∧ (rdE R).2.1.size ≤ 1000 := ⟨(rdId_in hbR).1, (rdId_in hbR).2, rdTx_size hbR⟩
      have HgE := Lib.hid hgE
      have HS : RowKit.Hid (okT L → thT R = true ∧ Es ++ [rdE R] = Ef.take (i + 1) ∧ rdH R = restE Ef Uf (i + 1)) := Lib.hid (fun q => by
        obtain ⟨Ws, -, hf, e1, -⟩ := HF.out q
        obtain ⟨e2, e3⟩ := HI.out q
        obtain ⟨e, he, p1, p2, p3⟩ := step_e (Us := Uf) (i := i) hf (by omega)
        rw [e3]
        refine ⟨p1, ?_, p3⟩
        rw [p2, e2, List.take_add_one, he]
        rfl)
      obtain ⟨kt, gkt⟩ : ∃ z, thT R = z := ⟨_, rfl⟩
      have HKt := Lib.hid gkt
      rw [gkt] at HS
      clear hbR hnr hgE gkt HI
      go_upto_region 10 with (first
        | (go_at_call 22
           refine (HC.out _ HT.out.r).mono ?_
           rintro e w2 ⟨x1, x2, sx, tx, A2, n2, c2, R2, rfl, hr2, hj2, hv2, hy2, hb2⟩
           rw [HKt.out] at hv2 ⊢
           have hE : Ext w2 (w2.alloc (.cells #[.int .i64 x1, .int .i64 x2, .string sx, .int .i64 tx] 43)) := below1 w2 _
           have HK2 := Lib.hid ((HK.out.bl hb2).bl hE)
           have HO2 := Lib.hid ((HO.out.up hb2).up hE)
           have HT2 : RowKit.Hid (Bt w (w2.alloc (.cells #[.int .i64 x1, .int .i64 x2, .string sx, .int .i64 tx] 43)) A2 n2 c2 L R2) := Lib.hid ((HT.out.next hr2 hj2 hy2).bl hE)
           have HZ2 : RowKit.Hid (Whole (w2.alloc (.cells #[.int .i64 x1, .int .i64 x2, .string sx, .int .i64 tx] 43)) w2.heap.size 43 [.int .i64 x1, .int .i64 x2, .string sx, .int .i64 tx]) := Lib.hid (Whole.new_ _ _ [_, _, _, _])
           have HV2 := Lib.hid hv2
           clear hr2 hj2 hv2 hy2 hb2 hE))
      clear HC HK HO HT HKt
      obtain ⟨w3, gw3⟩ : ∃ z, w2.alloc (.cells #[.int .i64 x1, .int .i64 x2, .string sx, .int .i64 tx] 43) = z := ⟨_, rfl⟩
      obtain ⟨b8, gb8⟩ : ∃ z, w2.heap.size = z := ⟨_, rfl⟩
      rw [gw3] at HK2 HO2 HT2 HZ2 ⊢
      rw [gb8] at HZ2 ⊢
      clear gw3 gb8
      cases kt with
      | false =>
        have hno : ¬ okT L := fun q => by have := (HS.out q).1; cases this
        have e0 := HK2.out.x0.cell (i := 0) rfl
        have e1 := HK2.out.x0.cell (i := 1) rfl
        have f0 := HK2.out.x0.free 0
        have f1 := HK2.out.x0.free 1
        go_wp2
        have HXz := (HK2.out.x0.set_ 0 (.slice none 0 0)).set_ 1 (.slice none 0 0)
        have HBz := (HK2.out.b.setCell (p := ⟨b0, 0, none⟩) HK2.out.n.2.2 (.slice none 0 0)).setCell (p := ⟨b0, 1, none⟩) HK2.out.n.2.2 (.slice none 0 0)
        exact ret_whole2 rfl b0 rfl rfl HXz Tryz.underlying25 rfl (by kernel_rfl) rfl (GivesTR.no HBz hno)
      | true =>
        go_upto_region 12 with fail
        obtain ⟨v1, v2⟩ := HV2.out rfl
        have d1 := HK2.out.x2.cell (i := 1) rfl
        have j0 := HZ2.out.cell (i := 0) rfl
        have j1 := HZ2.out.cell (i := 1) rfl
        have j2 := HZ2.out.cell (i := 2) rfl
        have j3 := HZ2.out.cell (i := 3) rfl
        rw [← v1] at HgE HS
        rw [← v2] at HS
        clear v1 v2 HV2
        refine wp_region_lit ?_
        refine wl_read (v := ?_) (some 46) rfl (by rfl) ?_ ?_
        rotate_left
        · go_simp; (try with_reducible rfl)
        simp only [Act.put, stA_, st0_, st1_]
        refine wl_read (v := ?_) (some 47) rfl (by rfl) ?_ ?_
        rotate_left
        · go_simp; (try with_reducible rfl)
        simp only [Act.put, stA_, st0_, st1_]
        refine wl_read (v := ?_) (some 48) rfl (by rfl) ?_ ?_
        rotate_left
        · go_simp; (try with_reducible rfl)
        simp only [Act.put, stA_, st0_, st1_]
        clear d1 j0 j1 j2 j3 HZ2
        refine wl_buildSlice (some 49) rfl (by rfl) 23 43 1 #[(0, .tmp 48)] (by rfl) Tryz.underlying23 (eC ((x1, x2), sx, tx)).toArray (by kernel_rfl) ?_
        simp only [Act.put, stA_, st0_, st1_]
        have HKa := Lib.hid (HK2.out.al (.cells (eC ((x1, x2), sx, tx)).toArray 43))
        have HTa := Lib.hid (HT2.out.al (.cells (eC ((x1, x2), sx, tx)).toArray 43))
        have HOa := Lib.hid (Ow.up HO2.out (below1 w3 (.cells (eC ((x1, x2), sx, tx)).toArray 43)))
        obtain ⟨B3, k3, w4, hrun, ho4, hg4⟩ := appE 23 HOa.out (RdS.of_whole (size := 4) (n := 1) (Whole.new_ w3 43 (eC ((x1, x2), sx, tx))) rfl) (by omega)
        refine wl_run (some 50) rfl (by rfl) (exec_append (by rfl) (by rfl) (by rfl) hrun) ?_
        simp only [Act.put, stA_, st0_, st1_]
        have HK4 := Lib.hid (HKa.out.own HOa.out.own (Nat.le_refl _) (by decide) hg4)
        have HT4 := Lib.hid (HTa.out.own HOa.out.own (Nat.le_refl _) hg4)
        have HO4 := Lib.hid ho4
        clear hrun ho4 hg4 HK2 HO2 HT2 HKa HOa HTa
        have d1 := HK4.out.x2.cell (i := 1) rfl
        have f1 := HK4.out.x2.free 1
        have HK5 := Lib.hid (HK4.out.setd 1 (.slice B3 (i + 1) k3))
        have HT5 := Lib.hid (HT4.out.set (i := 1) HK4.out.n.2.1 (.slice B3 (i + 1) k3))
        have HO5 : RowKit.Hid (Ow w w.heap.size 43 4 (.slice B3 (i + 1) k3) (i + 1) (rowsV eC (Es ++ [((x1, x2), sx, tx)])) (w4.setCell ⟨b1, 1, none⟩ (.slice B3 (i + 1) k3))) := Lib.hid ⟨own_cell_far HO4.out.own (own_ne HO4.out.own HK4.out.x2 (by decide)) _, HK5.out.b, Nat.le_refl _, HK5.out.b.size⟩
        have HG5 : RowKit.Hid (GE (Es ++ [((x1, x2), sx, tx)])) := Lib.hid (fun e he => by
          rcases List.mem_append.1 he with q | q
          · exact HG.out e q
          · obtain rfl := List.mem_singleton.1 q
            exact HgE.out)
        clear HK4 HT4 HO4 HG HgE
        go_wp2
        go_roundw
        case rel => exact ⟨i + 1, B3, k3, _, A2, n2, c2, _, by omega, by go_num, rfl, HK5, HO5, HT5, HG5, Lib.hid (fun q => (HS.out q).2)⟩
        case measure => simp [intOf] <;> omega
    · obtain rfl : a0 = i := by omega
      by_cases hnr : nr < 1
      · have hno : ¬ okT L := fun q => by
          obtain ⟨Ws, -, -, e1, -⟩ := HF.out q
          have e2 := (HI.out q).2
          have e3 := HT.out.len.1
          rw [e2, ← e1, rest_end, List.length_cons] at e3
          omega
        have hlt : (nr : Int) < 1 := by omega
        have e0 := HK.out.x0.cell (i := 0) rfl
        have e1 := HK.out.x0.cell (i := 1) rfl
        have f0 := HK.out.x0.free 0
        have f1 := HK.out.x0.free 1
        go_wp2
        have HXz := (HK.out.x0.set_ 0 (.slice none 0 0)).set_ 1 (.slice none 0 0)
        have HBz := (HK.out.b.setCell (p := ⟨b0, 0, none⟩) HK.out.n.2.2 (.slice none 0 0)).setCell (p := ⟨b0, 1, none⟩) HK.out.n.2.2 (.slice none 0 0)
        exact ret_whole2 rfl b0 rfl rfl HXz Tryz.underlying25 rfl (by kernel_rfl) rfl (GivesTR.no HBz hno)
      obtain ⟨m0, R2, gR⟩ : ∃ m0 R2, R = m0 :: R2 := by
        have := HT.out.len.1
        cases R with
        | nil => simp at this; omega
        | cons a K => exact ⟨a, K, rfl⟩
      subst gR
      have hbR := HT.out.byte Hb.out
      have hm0 : m0 < 256 := hbR m0 (by simp)
      have hlow := HT.out.r.low_ (k := 1) (by omega)
      rw [show (rowsV f8 (m0 :: R2)).drop (1 * 1) = rowsV f8 R2 from rfl] at hlow
      obtain ⟨A5, hA5⟩ : ∃ A1, (if cr = 1 then Ar else Ar.map (·.add (1 * 1))) = A1 := ⟨_, rfl⟩
      rw [hA5] at hlow
      obtain ⟨n5, gn5⟩ : ∃ z, nr - 1 = z := ⟨_, rfl⟩
      rw [gn5] at hlow
      have HT5 : RowKit.Hid (Bt w wo A5 n5 (cr - 1) L R2) := Lib.hid (HT.out.next hlow ⟨1, rfl⟩ (lies_low hA5))
      obtain ⟨b9, o9, gA9, -, hp⟩ := byte_at HT.out.r (by omega)
      have l0 := hp 0 m0 rfl
      rw [Nat.add_zero] at l0
      subst gA9
      have HAr := Lib.hid hA5
      have Hm1 : RowKit.Hid (1 ≤ nr ∧ nr - 1 = n5) := Lib.hid ⟨by omega, gn5⟩
      have v0 : IntKind.i64.wrap (m0 : Int) = (m0 : Int) := IntWalk.i64_in _ (by omega)
      have hge : ¬ (nr : Int) < 1 := by omega
      have d5 : (0 : Int) < (nr : Int) := by omega
      have d6 : 0 < nr := by omega
      have HF2 : RowKit.Hid (okT L → ∃ Ws, Ws.map vS = Uf ∧ Formed Ws Ef ∧ Es = Ef ∧ Ef.length ≤ 40 ∧ Uf.length = m0 ∧ R2 = restV Ef Uf 0) := Lib.hid (fun q => by
        obtain ⟨Ws, e0, hf, e1, -⟩ := HF.out q
        obtain ⟨e2, e3⟩ := HI.out q
        rw [← e1, rest_end] at e3
        injection e3 with e4 e5
        have h24 := hf.v24
        have hlw : Uf.length = Ws.length := by rw [← e0, List.length_map]
        rw [List.take_of_length_le (by omega)] at e2
        exact ⟨Ws, e0, hf, e2, hf.e40, by omega, e5⟩)
      clear hp hlow hA5 gn5 HF HI hbR
      go_upto_region 17 with fail
      clear l0 v0 hge d5 d6
      refine wp_region_lit ?_
      refine wl_read (v := ?_) (some 61) rfl (by rfl) ?_ ?_
      rotate_left
      · go_simp; (try with_reducible rfl)
      simp only [Act.put, stA_, st0_, st1_]
      refine wl_run (some 62) rfl (by rfl) (exec_slice_low_as 27 5 (.tmp 61) (.const (.int .i64 1)) rfl Tryz.underlying27 (s := 1) (by kernel_rfl) rfl rfl Hm1.out.1 HAr.out Hm1.out.2 rfl) ?_
      simp only [Act.put, stA_, st0_, st1_]
      have HC0 : RowKit.Hid (ClS wo w.heap.size none 0 0 [] B2 a0 k2 Es) := Lib.hid ⟨World.ownsRow_nil _ _ _ _, HO.out.own, fun x hx => (by cases hx)⟩
      clear HAr Hm1 HO HT
      go_wp2
      go_loopw [6, 12] (fun rest si wr => ∃ (j : Nat) (A2 : Option Addr) (c2 : Nat) (Ws : List VC) (Ar : Option Addr) (nr cr : Nat) (R : List Nat), j ≤ m0 ∧ si = .int .i64 j ∧ rest = .slice Ar nr cr ∧ RowKit.Hid (Rk w wr b0 b1 [.slice A2 j c2, .slice B2 a0 k2]) ∧ RowKit.Hid (ClS wr w.heap.size A2 j c2 Ws B2 a0 k2 Es) ∧ RowKit.Hid (Bt w wr Ar nr cr L R) ∧ RowKit.Hid (GV Ws) ∧ RowKit.Hid (okT L → Ws.map vS = Uf.take j ∧ R = restV Ef Uf j)) (fun _ si _ => m0 - (intOf si).toNat)
      case atStart => exact ⟨0, none, 0, [], A5, n5, cr - 1, R2, by omega, rfl, rfl, HK, HC0, HT5, Lib.hid (fun x hx => by cases hx), Lib.hid (fun q => ⟨rfl, by obtain ⟨Ws, -, -, -, -, -, e⟩ := HF2.out q; exact e⟩)⟩
      case round =>
        clear HK HC0 HT5
        obtain ⟨j, A2, c2, Ws, Ar, nr, cr, R, hj_, rfl, rfl, HK, HC, HT, HGV, HI⟩ := hrel
        obtain ⟨wo, gwo⟩ : ∃ z, wr = z := ⟨_, rfl⟩
        rw [gwo] at HK HC HT ⊢
        clear gwo
        by_cases hjn : j < m0
        · have hbR := HT.out.byte Hb.out
          have hnr : nr ≤ 100000 := by have := HT.out.len.2; have := Hl.out; omega
          have HCt : RowKit.Hid (∀ W, RdS W W.heap.size 1 Ar nr cr (rowsV f8 R) → Calls Tryz.prog 22 #[.slice Ar nr cr] W (GivesRH W Ar R)) := Lib.hid (fun W h => rthing_any Ar nr cr R W h hbR hnr)
          have HgE : RowKit.Hid (In64 (rdE R).1.1 ∧ In64 (rdE R).1.2 ∧ (rdE R).2.1.size ≤ 1000) := Lib.hid ⟨(rdId_in hbR).1, (rdId_in hbR).2, rdTx_size hbR⟩
          have HS : RowKit.Hid (okT L → thT R = true ∧ ∃ v, Uf[j]? = some v ∧ (∀ d ∈ v.2.1, (d.1, d.2.1) ∈ Ef.map (·.1) ∧ (d.2.2 = 0 ∨ d.2.2 = 1)) ∧ v.2.1.length ≤ 80 ∧ rdE R = (v.1, v.2.2.1, v.2.2.2) ∧ rdH R = v.2.1.length % 256 :: (v.2.1.map (dB Ef) ++ restV Ef Uf (j + 1))) := Lib.hid (fun q => by
            obtain ⟨W0, e0, hf, -, -, e4, -⟩ := HF2.out q
            obtain ⟨-, e3⟩ := HI.out q
            obtain ⟨v, hv, q1, q2, q3, q4, q5⟩ := step_v (i := j) hf (by rw [← e4, ← e0, List.length_map] at hjn; exact hjn)
            rw [e0] at hv q3 q4 q5
            rw [e3]
            exact ⟨q3, v, hv, q1.2.2, q2, q4, q5⟩)
          obtain ⟨kt, gkt⟩ : ∃ z, thT R = z := ⟨_, rfl⟩
          have HKt := Lib.hid gkt
          rw [gkt] at HS
          clear hbR hnr gkt
          go_upto_region 22 with (first
            | (go_at_call 22
               refine (HCt.out _ HT.out.r).mono ?_
               rintro e w2 ⟨x1, x2, sx, tx, A3, n3, c3, M, rfl, hr2, hj2, hv2, hy2, hb2⟩
               rw [HKt.out] at hv2 ⊢
               have hE : Ext w2 (w2.alloc (.cells #[.int .i64 x1, .int .i64 x2, .string sx, .int .i64 tx] 43)) := below1 w2 _
               have HK2 := Lib.hid ((HK.out.bl hb2).bl hE)
               have HC2 := Lib.hid ((HC.out.bl hb2).bl hE)
               have HT2 : RowKit.Hid (Bt w (w2.alloc (.cells #[.int .i64 x1, .int .i64 x2, .string sx, .int .i64 tx] 43)) A3 n3 c3 L M) := Lib.hid ((HT.out.next hr2 hj2 hy2).bl hE)
               have HZ2 : RowKit.Hid (Whole (w2.alloc (.cells #[.int .i64 x1, .int .i64 x2, .string sx, .int .i64 tx] 43)) w2.heap.size 43 [.int .i64 x1, .int .i64 x2, .string sx, .int .i64 tx]) := Lib.hid (Whole.new_ _ _ [_, _, _, _])
               have HV2 := Lib.hid hv2
               clear hr2 hj2 hv2 hy2 hb2 hE))
          clear HCt HK HC HT HKt
          obtain ⟨w3, gw3⟩ : ∃ z, w2.alloc (.cells #[.int .i64 x1, .int .i64 x2, .string sx, .int .i64 tx] 43) = z := ⟨_, rfl⟩
          obtain ⟨b13, gb13⟩ : ∃ z, w2.heap.size = z := ⟨_, rfl⟩
          rw [gw3] at HK2 HC2 HT2 HZ2 ⊢
          rw [gb13] at HZ2 ⊢
          clear gw3 gb13
          cases kt with
          | false =>
            have hno : ¬ okT L := fun q => by have := (HS.out q).1; cases this
            have e0 := HK2.out.x0.cell (i := 0) rfl
            have e1 := HK2.out.x0.cell (i := 1) rfl
            have f0 := HK2.out.x0.free 0
            have f1 := HK2.out.x0.free 1
            go_wp2
            have HXz := (HK2.out.x0.set_ 0 (.slice none 0 0)).set_ 1 (.slice none 0 0)
            have HBz := (HK2.out.b.setCell (p := ⟨b0, 0, none⟩) HK2.out.n.2.2 (.slice none 0 0)).setCell (p := ⟨b0, 1, none⟩) HK2.out.n.2.2 (.slice none 0 0)
            exact ret_whole2 rfl b0 rfl rfl HXz Tryz.underlying25 rfl (by kernel_rfl) rfl (GivesTR.no HBz hno)
          | true =>
            obtain ⟨v1, v2⟩ := HV2.out rfl
            rw [← v1] at HgE HS
            rw [← v2] at HS
            clear v1 v2 HV2
            by_cases hn3 : n3 < 1
            · have hno : ¬ okT L := fun q => by
                obtain ⟨-, v, -, -, -, -, e⟩ := HS.out q
                have e3 := HT2.out.len.1
                rw [e, List.length_cons] at e3
                omega
              have hlt : (n3 : Int) < 1 := by omega
              have e0 := HK2.out.x0.cell (i := 0) rfl
              have e1 := HK2.out.x0.cell (i := 1) rfl
              have f0 := HK2.out.x0.free 0
              have f1 := HK2.out.x0.free 1
              go_wp2
              have HXz := (HK2.out.x0.set_ 0 (.slice none 0 0)).set_ 1 (.slice none 0 0)
              have HBz := (HK2.out.b.setCell (p := ⟨b0, 0, none⟩) HK2.out.n.2.2 (.slice none 0 0)).setCell (p := ⟨b0, 1, none⟩) HK2.out.n.2.2 (.slice none 0 0)
              exact ret_whole2 rfl b0 rfl rfl HXz Tryz.underlying25 rfl (by kernel_rfl) rfl (GivesTR.no HBz hno)
            obtain ⟨m1, M1, gM⟩ : ∃ m1 M1, M = m1 :: M1 := by
              have := HT2.out.len.1
              cases M with
              | nil => simp at this; omega
              | cons a K => exact ⟨a, K, rfl⟩
            subst gM
            have hbM := HT2.out.byte Hb.out
            have hm1 : m1 < 256 := hbM m1 (by simp)
            have hlM : M1.length + 1 = n3 := by have := HT2.out.len.1; rw [List.length_cons] at this; exact this
            obtain ⟨bb, off, gA3, -, hp⟩ := byte_at HT2.out.r (by omega)
            have l0 := hp 0 m1 rfl
            rw [Nat.add_zero] at l0
            subst gA3
            obtain ⟨me, gme⟩ : ∃ z, 1 + m1 = z := ⟨_, rfl⟩
            have v0 : IntKind.i64.wrap (m1 : Int) = (m1 : Int) := IntWalk.i64_in _ (by omega)
            have hw1 : IntKind.i64.wrap (1 + (m1 : Int)) = (me : Int) := by rw [IntWalk.i64_in _ (by omega)]; omega
            have d5 : (0 : Int) < (n3 : Int) := by omega
            have d6 : 0 < n3 := by omega
            have d8 : decide ((n3 : Int) < 1) = false := decide_eq_false (by omega)
            have d9 : decide (n3 < 1) = false := decide_eq_false (by omega)
            have d10 : ¬ (n3 : Int) < 1 := by omega
            have d11 : (n3 == 0) = false := beq_eq_false_iff_ne.2 (by omega)
            have Gme := Lib.hid gme
            have HbM := Lib.hid hbM
            have HlM := Lib.hid hlM
            clear hp hbM hlM gme
            by_cases hme : n3 < me
            · have hno : ¬ okT L := fun q => by
                obtain ⟨-, v, -, -, h80, -, e⟩ := HS.out q
                have e3 := HlM.out
                injection e with e4 e5
                rw [e5, List.length_append, List.length_map] at e3
                have := Gme.out
                omega
              have d12 : decide ((n3 : Int) < (me : Int)) = true := decide_eq_true (by omega)
              have d13 : decide (n3 < me) = true := decide_eq_true (by omega)
              have e0 := HK2.out.x0.cell (i := 0) rfl
              have e1 := HK2.out.x0.cell (i := 1) rfl
              have f0 := HK2.out.x0.free 0
              have f1 := HK2.out.x0.free 1
              go_wp2
              have HXz := (HK2.out.x0.set_ 0 (.slice none 0 0)).set_ 1 (.slice none 0 0)
              have HBz := (HK2.out.b.setCell (p := ⟨b0, 0, none⟩) HK2.out.n.2.2 (.slice none 0 0)).setCell (p := ⟨b0, 1, none⟩) HK2.out.n.2.2 (.slice none 0 0)
              exact ret_whole2 rfl b0 rfl rfl HXz Tryz.underlying25 rfl (by kernel_rfl) rfl (GivesTR.no HBz hno)
            have d12 : decide ((n3 : Int) < (me : Int)) = false := decide_eq_false (by omega)
            have d13 : decide (n3 < me) = false := decide_eq_false (by omega)
            have d14 : ¬ (n3 : Int) < (me : Int) := by omega
            go_upto_region 24 with fail
            clear d5 d6 d8 d9 d10 d11 d12 d13 d14 hw1 v0 l0
            have j0 := HZ2.out.cell (i := 0) rfl
            have j1 := HZ2.out.cell (i := 1) rfl
            have j2 := HZ2.out.cell (i := 2) rfl
            have j3 := HZ2.out.cell (i := 3) rfl
            go_upto_region 25 with fail
            clear j0 j1 j2 j3 HZ2
            have HK3 := Lib.hid (HK2.out.al (.cells #[.int .i64 x1, .int .i64 x2, .slice none 0 0, .string sx, .int .i64 tx] 47))
            have HC3 := Lib.hid (HC2.out.al (.cells #[.int .i64 x1, .int .i64 x2, .slice none 0 0, .string sx, .int .i64 tx] 47))
            have HT3 := Lib.hid (HT2.out.al (.cells #[.int .i64 x1, .int .i64 x2, .slice none 0 0, .string sx, .int .i64 tx] 47))
            have HV3 : RowKit.Hid (Whole (w3.alloc (.cells #[.int .i64 x1, .int .i64 x2, .slice none 0 0, .string sx, .int .i64 tx] 47)) w3.heap.size 47 [.int .i64 x1, .int .i64 x2, .slice none 0 0, .string sx, .int .i64 tx]) := Lib.hid (Whole.new_ _ _ [_, _, _, _, _])
            have Hlv : RowKit.Hid (w.heap.size ≤ w3.heap.size) := Lib.hid HK2.out.b.size
            have Hvv : RowKit.Hid (some w3.heap.size ≠ (Value.slice A2 j c2).ownBlock) := Lib.hid (fun e => by have := (HC2.out.v.lt _ e.symm).2; omega)
            obtain ⟨w4, gw4⟩ : ∃ z, w3.alloc (.cells #[.int .i64 x1, .int .i64 x2, .slice none 0 0, .string sx, .int .i64 tx] 47) = z := ⟨_, rfl⟩
            obtain ⟨b16, gb16⟩ : ∃ z, w3.heap.size = z := ⟨_, rfl⟩
            rw [gw4] at HK3 HC3 HT3 HV3 ⊢
            rw [gb16] at HV3 Hlv Hvv ⊢
            clear gw4 gb16 HK2 HC2 HT2
            have HOw : RowKit.Hid (w4.ownsRow w4.heap.size 49 3 (.slice none 0 0) 0 (dartsV [])) := Lib.hid (World.ownsRow_nil _ _ _ _)
            have Hfar : RowKit.Hid (∀ x ∈ Ws, ∀ kk, (Value.slice x.2.1.1 x.2.1.2.1 x.2.1.2.2.1).ownBlock = some kk → kk < w4.heap.size) := Lib.hid (fun x hx kk e => ((HC3.out.r x hx).lt kk e).2)
            obtain ⟨lo5, glo5⟩ : ∃ z, w4.heap.size = z := ⟨_, rfl⟩
            have Hlo6 : RowKit.Hid (w.heap.size ≤ lo5 ∧ lo5 ≤ w4.heap.size) := Lib.hid (by rw [← glo5]; exact ⟨HK3.out.b.size, Nat.le_refl _⟩)
            rw [glo5] at HOw Hfar
            clear glo5
            go_wp2
            go_loopw [17] (fun si wr => ∃ (k t : Nat) (A4 : Option Addr) (c4 : Nat) (ds : List D), t ≤ m1 ∧ si = .int .i64 (k : Int) ∧ RowKit.Hid (k = t + 1) ∧ RowKit.Hid (Rk w wr b0 b1 [.slice A2 j c2, .slice B2 a0 k2]) ∧ RowKit.Hid (ClS wr w.heap.size A2 j c2 Ws B2 a0 k2 Es) ∧ RowKit.Hid (Whole wr b16 47 [.int .i64 x1, .int .i64 x2, .slice A4 t c4, .string sx, .int .i64 tx]) ∧ RowKit.Hid (wr.ownsRow lo5 49 3 (.slice A4 t c4) t (dartsV ds)) ∧ RowKit.Hid (w.heap.size ≤ lo5 ∧ lo5 ≤ wr.heap.size) ∧ RowKit.Hid (Bt w wr (some ⟨bb, off, none⟩) n3 c3 L (m1 :: M1)) ∧ RowKit.Hid (ds = (M1.take t).map (rdD Es))) (fun si _ => m1 + 1 - (intOf si).toNat)
            case atStart => exact ⟨1, 0, none, 0, [], by omega, rfl, Lib.hid rfl, HK3, HC3, HV3, HOw, Hlo6, HT3, Lib.hid rfl⟩
            case round =>
              clear HK3 HC3 HV3 HOw Hlo6 HT3
              obtain ⟨k, t, A4, c4, ds, ht_, rfl, Hk, HK, HC, HV, HO, Hlo, HT, Hds⟩ := hrel
              obtain ⟨wi, gwi⟩ : ∃ z, wr = z := ⟨_, rfl⟩
              rw [gwi] at HK HC HV HO Hlo HT ⊢
              clear gwi
              obtain ⟨bb2, of2, gA, -, hp⟩ := byte_at HT.out.r (by have := HlM.out; omega)
              obtain ⟨rfl, rfl⟩ : bb2 = bb ∧ of2 = off := by
                injection gA with gA
                injection gA with q1 q2
                exact ⟨q1.symm, q2.symm⟩
              clear gA
              have l0 := hp 0 m1 rfl
              rw [Nat.add_zero] at l0
              have v0 : IntKind.i64.wrap (m1 : Int) = (m1 : Int) := IntWalk.i64_in _ (by omega)
              have d6 : 0 < n3 := by have := HlM.out; omega
              have d5 : (0 : Int) < (n3 : Int) := by omega
              by_cases htn : t < m1
              · obtain ⟨cb, hcb⟩ : ∃ b, M1[t]? = some b := ⟨_, List.getElem?_eq_getElem (by have := HlM.out; have := Gme.out; omega)⟩
                have hc8 : cb < 256 := HbM.out cb (List.mem_cons_of_mem _ (List.mem_of_getElem? hcb))
                have l1 := hp (t + 1) cb hcb
                rw [← Hk.out] at l1
                obtain ⟨cm, gcm⟩ : ∃ z, cb % 128 = z := ⟨_, rfl⟩
                obtain ⟨cq, gcq⟩ : ∃ z, cb / 128 = z := ⟨_, rfl⟩
                have y0 : IntKind.i64.wrap (cb : Int) = (cb : Int) := IntWalk.i64_in _ (by omega)
                have y1 : (cb : Int).tmod 128 = (cm : Int) := by rw [Int.tmod_eq_emod_of_nonneg (by omega)]; omega
                have y2 : IntKind.i64.wrap (cm : Int) = (cm : Int) := IntWalk.i64_in _ (by omega)
                have y3 : (cb : Int).tdiv 128 = (cq : Int) := by rw [Int.tdiv_eq_ediv_of_nonneg (by omega)]; omega
                have y4 : IntKind.i64.wrap (cq : Int) = (cq : Int) := IntWalk.i64_in _ (by omega)
                have hk1 : k ≤ m1 := by have := Hk.out; omega
                have hk2 : (k : Int) ≤ (m1 : Int) := by omega
                have hk3 : (k : Int) < (n3 : Int) := by have := HlM.out; have := Gme.out; omega
                have hk4 : k < n3 := by omega
                have hel : Es.length = a0 := (own_rds HC.out.e).rlen eC_len (by decide)
                have HNo : RowKit.Hid (okT L → cm < a0) := Lib.hid (fun q => by
                  obtain ⟨-, v, -, hv, h80, -, e⟩ := HS.out q
                  obtain ⟨W0_, -, -, e1, h40, -, -⟩ := HF2.out q
                  injection e with e4 e5
                  have hm : m1 = v.2.1.length := by omega
                  have e6 : M1[t]? = some (dB Ef (v.2.1[t]'(by omega))) := by
                    rw [e5, List.getElem?_append_left (by rw [List.length_map]; omega), List.getElem?_map, List.getElem?_eq_getElem (by omega)]
                    rfl
                  rw [hcb] at e6
                  have e7 := Option.some.inj e6
                  have h9 := dart_lt (hv _ (List.getElem_mem (show t < v.2.1.length by omega))).1 (hv _ (List.getElem_mem (show t < v.2.1.length by omega))).2 h40
                  rw [← e7, gcm, ← e1, hel] at h9
                  exact h9)
                have HdD : RowKit.Hid (∀ e, Es[cm]? = some e → rdD Es cb = (e.1.1, e.1.2, (cq : Int))) := Lib.hid (fun e he => by unfold rdD; rw [gcm, he, gcq])
                have Hnx : RowKit.Hid ((M1.take (t + 1)).map (rdD Es) = ds ++ [rdD Es cb]) := Lib.hid (by
                  rw [List.take_add_one, hcb, List.map_append, Hds.out]
                  rfl)
                have Hel := Lib.hid hel
                clear hcb gcm gcq hel hp Hds
                go_upto_region 29 with fail
                by_cases hat : a0 ≤ cm
                · have hno : ¬ okT L := fun q => by have := HNo.out q; omega
                  have hat2 : (a0 : Int) ≤ (cm : Int) := by omega
                  clear HNo HdD Hnx
                  have e0 := HK.out.x0.cell (i := 0) rfl
                  have e1 := HK.out.x0.cell (i := 1) rfl
                  have f0 := HK.out.x0.free 0
                  have f1 := HK.out.x0.free 1
                  go_wp2
                  have HXz := (HK.out.x0.set_ 0 (.slice none 0 0)).set_ 1 (.slice none 0 0)
                  have HBz := (HK.out.b.setCell (p := ⟨b0, 0, none⟩) HK.out.n.2.2 (.slice none 0 0)).setCell (p := ⟨b0, 1, none⟩) HK.out.n.2.2 (.slice none 0 0)
                  exact ret_whole2 rfl b0 rfl rfl HXz Tryz.underlying25 rfl (by kernel_rfl) rfl (GivesTR.no HBz hno)
                have hat2 : ¬ (a0 : Int) ≤ (cm : Int) := by omega
                obtain ⟨e, he⟩ : ∃ e, Es[cm]? = some e := ⟨_, List.getElem?_eq_getElem (by have := Hel.out; omega)⟩
                have hdd := HdD.out e he
                obtain ⟨eb, eo, gB, -, hpl⟩ := (own_rds HC.out.e).place eC_len (by decide) (by omega)
                subst gB
                have q0 := hpl cm e he 0 _ rfl
                have q1 := hpl cm e he 1 _ rfl
                simp only [Addr.add_lit, Nat.add_zero] at q0 q1
                obtain ⟨⟨e1, e2⟩, el, et⟩ := e
                have Hdd : RowKit.Hid ((M1.take (t + 1)).map (rdD Es) = ds ++ [(e1, e2, (cq : Int))]) := Lib.hid (by rw [Hnx.out, hdd])
                clear HNo HdD Hnx hdd he hpl
                go_upto_region 31 with fail
                have hcm : cm < a0 := by omega
                have hcm2 : (cm : Int) < (a0 : Int) := by omega
                clear hat hat2 v0 y1 y2 hk2
                have Hs1 : RowKit.Hid (¬ (some b16 = (Value.slice A4 t c4).ownBlock ∨ wi.heap.size ≤ b16)) := Lib.hid (fun e => by rcases e with e | e; exact own_ne HO.out HV.out (by decide) e; exact absurd HV.out.lt (by omega))
                have Hs2 : RowKit.Hid (¬ (some b1 = (Value.slice A4 t c4).ownBlock ∨ wi.heap.size ≤ b1)) := Lib.hid (fun e => by rcases e with e | e; exact own_ne HO.out HK.out.x2 (by decide) e; exact absurd HK.out.x2.lt (by omega))
                have Hs3 : RowKit.Hid (¬ (some eb = (Value.slice A4 t c4).ownBlock ∨ wi.heap.size ≤ eb)) := Lib.hid (fun e => by
                  rcases e with e | e
                  · exact own_two HC.out.e HO.out (by decide) rfl e.symm
                  · have := (HC.out.e.lt eb rfl).2; omega)
                have Hs4 : RowKit.Hid (¬ (some bb2 = (Value.slice A4 t c4).ownBlock ∨ wi.heap.size ≤ bb2)) := Lib.hid (fun e => by
                  have h9 : bb2 < w.heap.size := HT.out.lo ⟨bb2, of2, none⟩ rfl d6
                  have h8 := Hlo.out
                  rcases e with e | e
                  · have := (HO.out.lt bb2 e.symm).1; omega
                  · omega)
                have HDr : RowKit.Hid (Ext wi wi.drew) := Lib.hid (below_drewN wi.heap.size wi 1)
                have ld0 : ∀ w', Kept (fun i => some i = (Value.slice A4 t c4).ownBlock ∨ wi.heap.size ≤ i) wi.drew w' → w'.cell? ⟨b16, 2, none⟩ = some (.slice A4 t c4) := fun w' h => h.cell (HV.out.dr.cell (i := 2) rfl) Hs1.out
                have ld1 : ∀ w', Kept (fun i => some i = (Value.slice A4 t c4).ownBlock ∨ wi.heap.size ≤ i) wi.drew w' → w'.cell? ⟨b1, 1, none⟩ = some (.slice (some ⟨eb, eo, none⟩) a0 k2) := fun w' h => h.cell (HK.out.x2.dr.cell (i := 1) rfl) Hs2.out
                have ld2 : ∀ w', Kept (fun i => some i = (Value.slice A4 t c4).ownBlock ∨ wi.heap.size ≤ i) wi.drew w' → w'.cell? ⟨eb, eo + cm * 4, none⟩ = some (.int .i64 e1) := fun w' h => h.cell (show wi.drew.cell? _ = _ from q0) Hs3.out
                have ld3 : ∀ w', Kept (fun i => some i = (Value.slice A4 t c4).ownBlock ∨ wi.heap.size ≤ i) wi.drew w' → w'.cell? ⟨eb, eo + cm * 4 + 1, none⟩ = some (.int .i64 e2) := fun w' h => h.cell (show wi.drew.cell? _ = _ from q1) Hs3.out
                have ld4 : ∀ w', Kept (fun i => some i = (Value.slice A4 t c4).ownBlock ∨ wi.heap.size ≤ i) wi.drew w' → w'.cell? ⟨bb2, of2 + k, none⟩ = some (.int .u8 (cb : Int)) := fun w' h => h.cell (show wi.drew.cell? _ = _ from l1) Hs4.out
                clear l0 l1 q0 q1
                refine wp_region_tail (fun i => some i = (Value.slice A4 t c4).ownBlock ∨ wi.heap.size ≤ i) [18] (by kernel_rfl) ?_
                apply wpT_next 0 (some 117) (by kernel_rfl)
                · rfl
                · rfl
                · kernel_rfl
                · kernel_rfl
                · kernel_rfl
                · exact fun _ _ _ _ h => h
                apply Exists.intro
                apply And.intro
                · apply yr_run; rfl; intro w' hw'; go_simp; (try with_reducible rfl)
                simp only [Act.put, stA_, st0_, st1_]
                apply wpT_next 1 (some 118) (by kernel_rfl)
                · rfl
                · rfl
                · kernel_rfl
                · kernel_rfl
                · kernel_rfl
                · exact fun _ _ _ _ h => h
                apply Exists.intro
                apply And.intro
                · apply yr_run; rfl; intro w' hw'; go_simp; (try with_reducible rfl)
                simp only [Act.put, stA_, st0_, st1_]
                apply wpT_next 2 (some 119) (by kernel_rfl)
                · rfl
                · rfl
                · kernel_rfl
                · kernel_rfl
                · kernel_rfl
                · exact fun _ _ _ _ h => h
                apply Exists.intro
                apply And.intro
                · apply yr_run; rfl; intro w' hw'; go_simp; (try with_reducible rfl)
                simp only [Act.put, stA_, st0_, st1_]
                apply wpT_next 3 (some 120) (by kernel_rfl)
                · rfl
                · rfl
                · kernel_rfl
                · kernel_rfl
                · kernel_rfl
                · exact fun _ _ _ _ h => h
                apply Exists.intro
                apply And.intro
                · apply yr_run; rfl; intro w' hw'; go_simp; (try with_reducible rfl)
                simp only [Act.put, stA_, st0_, st1_]
                apply wpT_next 4 (some 121) (by kernel_rfl)
                · rfl
                · rfl
                · kernel_rfl
                · kernel_rfl
                · kernel_rfl
                · exact fun _ _ _ _ h => h
                apply Exists.intro
                apply And.intro
                · apply yr_run; rfl; intro w' hw'; go_simp; (try with_reducible rfl)
                simp only [Act.put, stA_, st0_, st1_]
                apply wpT_next 5 (some 122) (by kernel_rfl)
                · rfl
                · rfl
                · kernel_rfl
                · kernel_rfl
                · kernel_rfl
                · exact fun _ _ _ _ h => h
                apply Exists.intro
                apply And.intro
                · apply yr_run; rfl; intro w' hw'; go_simp; (try with_reducible rfl)
                simp only [Act.put, stA_, st0_, st1_]
                apply wpT_next 6 (some 123) (by kernel_rfl)
                · rfl
                · rfl
                · kernel_rfl
                · kernel_rfl
                · kernel_rfl
                · exact fun _ _ _ _ h => h
                apply Exists.intro
                apply And.intro
                · apply yr_run; rfl; intro w' hw'; go_simp; (try with_reducible rfl)
                simp only [Act.put, stA_, st0_, st1_]
                apply wpT_next 7 (some 124) (by kernel_rfl)
                · rfl
                · rfl
                · kernel_rfl
                · kernel_rfl
                · kernel_rfl
                · exact fun _ _ _ _ h => h
                apply Exists.intro
                apply And.intro
                · apply yr_run; rfl; intro w' hw'; go_simp; (try with_reducible rfl)
                simp only [Act.put, stA_, st0_, st1_]
                apply wpT_next 8 (some 125) (by kernel_rfl)
                · rfl
                · rfl
                · kernel_rfl
                · kernel_rfl
                · kernel_rfl
                · exact fun _ _ _ _ h => h
                apply Exists.intro
                apply And.intro
                · apply yr_run; rfl; intro w' hw'; go_simp; (try with_reducible rfl)
                simp only [Act.put, stA_, st0_, st1_]
                apply wpT_next 9 (some 126) (by kernel_rfl)
                · rfl
                · rfl
                · kernel_rfl
                · kernel_rfl
                · kernel_rfl
                · exact fun _ _ _ _ h => h
                apply Exists.intro
                apply And.intro
                · apply yr_run; rfl; intro w' hw'; go_simp; (try with_reducible rfl)
                simp only [Act.put, stA_, st0_, st1_]
                apply wpT_next 10 (some 127) (by kernel_rfl)
                · rfl
                · rfl
                · kernel_rfl
                · kernel_rfl
                · kernel_rfl
                · exact fun _ _ _ _ h => h
                apply Exists.intro
                apply And.intro
                · apply yr_run; rfl; intro w' hw'; go_simp; (try with_reducible rfl)
                simp only [Act.put, stA_, st0_, st1_]
                apply wpT_next 11 (some 128) (by kernel_rfl)
                · rfl
                · rfl
                · kernel_rfl
                · kernel_rfl
                · kernel_rfl
                · exact fun _ _ _ _ h => h
                apply Exists.intro
                apply And.intro
                · apply yr_run; rfl; intro w' hw'; go_simp; (try with_reducible rfl)
                simp only [Act.put, stA_, st0_, st1_]
                apply wpT_next 12 (some 129) (by kernel_rfl)
                · rfl
                · rfl
                · kernel_rfl
                · kernel_rfl
                · kernel_rfl
                · exact fun _ _ _ _ h => h
                apply Exists.intro
                apply And.intro
                · apply yr_run; rfl; intro w' hw'; go_simp; (try with_reducible rfl)
                simp only [Act.put, stA_, st0_, st1_]
                apply wpT_next 13 (some 130) (by kernel_rfl)
                · rfl
                · rfl
                · kernel_rfl
                · kernel_rfl
                · kernel_rfl
                · exact fun _ _ _ _ h => h
                apply Exists.intro
                apply And.intro
                · apply yr_run; rfl; intro w' hw'; go_simp; (try with_reducible rfl)
                simp only [Act.put, stA_, st0_, st1_]
                apply wpT_next 14 (some 131) (by kernel_rfl)
                · rfl
                · rfl
                · kernel_rfl
                · kernel_rfl
                · kernel_rfl
                · exact fun _ _ _ _ h => h
                apply Exists.intro
                apply And.intro
                · apply yr_run; rfl; intro w' hw'; go_simp; (try with_reducible rfl)
                simp only [Act.put, stA_, st0_, st1_]
                apply wpT_run 15 (some 132)
                · rfl
                · rfl
                · kernel_rfl
                · rfl
                intro w' hw'
                refine ⟨.slice (some ⟨w'.heap.size, 0, none⟩) 1 1, w'.alloc (.cells #[.int .i64 e1, .int .i64 e2, .int .i64 (cq : Int)] 49), by (go_simp; first | done | exact rfl | exact ⟨rfl, rfl⟩), Kept.of_below (below1 _ _), ?_⟩
                have hE := Ext.trans (Ext.trans HDr.out hw') (below1 w' (.cells #[.int .i64 e1, .int .i64 e2, .int .i64 (cq : Int)] 49))
                have HK2 := Lib.hid (HK.out.bl hE)
                have HC2 := Lib.hid (HC.out.bl hE)
                have HV2 := Lib.hid (HV.out.bl hE)
                have HO2 := Lib.hid (own_up HO.out hE)
                have HT2 := Lib.hid (HT.out.bl hE)
                have Hlo2 : RowKit.Hid (w.heap.size ≤ lo5 ∧ lo5 ≤ (w'.alloc (.cells #[.int .i64 e1, .int .i64 e2, .int .i64 (cq : Int)] 49)).heap.size) := Lib.hid ⟨Hlo.out.1, Nat.le_trans Hlo.out.2 hE.size⟩
                have HQ2 : RowKit.Hid (RdS (w'.alloc (.cells #[.int .i64 e1, .int .i64 e2, .int .i64 (cq : Int)] 49)) (w'.alloc (.cells #[.int .i64 e1, .int .i64 e2, .int .i64 (cq : Int)] 49)).heap.size 3 (some ⟨w'.heap.size, 0, none⟩) 1 1 [.int .i64 e1, .int .i64 e2, .int .i64 (cq : Int)]) := Lib.hid (RdS.of_whole (size := 3) (n := 1) (Whole.new_ _ _ [_, _, _]) rfl)
                obtain ⟨wb, gwb⟩ : ∃ z, w'.alloc (.cells #[.int .i64 e1, .int .i64 e2, .int .i64 (cq : Int)] 49) = z := ⟨_, rfl⟩
                obtain ⟨ab, gab⟩ : ∃ z, w'.heap.size = z := ⟨_, rfl⟩
                rw [gwb] at HK2 HC2 HV2 HO2 HT2 Hlo2 HQ2 ⊢
                rw [gab] at HQ2 ⊢
                clear gwb gab hE hw' HK HC HV HO HT Hlo
                simp only [Act.put, stA_, st0_, st1_]
                apply wpT_run 16 (some 133)
                · rfl
                · rfl
                · kernel_rfl
                · rfl
                intro w' hw'
                have hO := own_up HO2.out hw'
                obtain ⟨A6, c6, w3_, hrun, ho3, hg3⟩ := appD 45 (Nat.le_trans Hlo2.out.2 hw'.size) hO (HQ2.out.bl hw') (by omega)
                refine ⟨_, w3_, exec_append (by rfl) (by rfl) (by rfl) hrun, kept_grow hg3 (fun i e => .inl e), ?_⟩
                have hC := HC2.out.bl hw'
                have HK3 := Lib.hid ((HK2.out.bl hw').own hO Hlo2.out.1 (by decide) hg3)
                have HT3 := Lib.hid ((HT2.out.bl hw').own hO Hlo2.out.1 hg3)
                have HV3 := Lib.hid ((HV2.out.bl hw').grown hg3 (own_ne hO (HV2.out.bl hw') (by decide)))
                have HC3 := Lib.hid (hC.grow hg3 (keep2 hO hC.v (by decide)) (keep2 hO hC.e (by decide)) (fun x hx => by
                  cases hq : (Value.slice x.2.1.1 x.2.1.2.1 x.2.1.2.2.1).ownBlock with
                  | none => exact .inl rfl
                  | some kk =>
                    refine .inr (fun e => ?_)
                    have h1 := (hO.lt kk e.symm).1
                    have h2 := Hfar.out x hx kk hq
                    omega))
                have HO3 := Lib.hid ho3
                have Hlo3 : RowKit.Hid (w.heap.size ≤ lo5 ∧ lo5 ≤ w3_.heap.size) := Lib.hid ⟨Hlo2.out.1, Nat.le_trans (Nat.le_trans Hlo2.out.2 hw'.size) hg3.size⟩
                clear hO hrun ho3 hg3 hC hw' HK2 HC2 HV2 HO2 HT2 HQ2 Hlo2
                simp only [Act.put, stA_, st0_, st1_]
                apply wpT_next 17 (some 134) (by kernel_rfl)
                · rfl
                · rfl
                · kernel_rfl
                · kernel_rfl
                · kernel_rfl
                · exact fun _ _ _ _ h => h
                apply Exists.intro
                apply And.intro
                · apply yr_run; rfl; intro w' hw'; go_simp; (try with_reducible rfl)
                simp only [Act.put, stA_, st0_, st1_]
                apply wpT_last 18
                · rfl
                · rfl
                · kernel_rfl
                · rfl
                · decide
                intro w' hw'
                have hK := HK3.out.bl hw'
                have hV := HV3.out.bl hw'
                have hC := HC3.out.bl hw'
                have hO := own_up HO3.out hw'
                have hT := HT3.out.bl hw'
                have q2 := hV.cell (i := 2) rfl
                have f2 := hV.free 2
                refine ⟨w'.setCell ⟨b16, 2, none⟩ (.slice A6 (t + 1) c6), by (go_simp; first | done | exact rfl | exact ⟨rfl, rfl⟩), ?_⟩
                have HK8 := Lib.hid (hK.setx hV (i := 2) (by decide) Hlv.out (.slice A6 (t + 1) c6))
                have HC8 := Lib.hid (hC.far2 (i := 2) hV Hvv.out (.slice A6 (t + 1) c6))
                have HV8 := Lib.hid (hV.set_ 2 (.slice A6 (t + 1) c6))
                have HO8 := Lib.hid (own_cell_far (i := 2) hO (own_ne hO hV (by decide)) (.slice A6 (t + 1) c6))
                have HT8 := Lib.hid (hT.set (i := 2) Hlv.out (.slice A6 (t + 1) c6))
                have Hlo8 : RowKit.Hid (w.heap.size ≤ lo5 ∧ lo5 ≤ (w'.setCell ⟨b16, 2, none⟩ (.slice A6 (t + 1) c6)).heap.size) := Lib.hid ⟨Hlo3.out.1, by have h1 := Nat.le_trans Hlo3.out.2 hw'.size; simpa using h1⟩
                obtain ⟨w5_, gw5⟩ : ∃ z, w'.setCell ⟨b16, 2, none⟩ (.slice A6 (t + 1) c6) = z := ⟨_, rfl⟩
                rw [gw5] at HK8 HC8 HV8 HO8 HT8 Hlo8 ⊢
                clear gw5 hK hV hC hO hT q2 f2 hw' HK3 HC3 HV3 HO3 HT3 Hlo3
                try simp only [Act.put, stA_, st0_, st1_]
                refine wpT_done (by kernel_rfl) ?_ _
                intro w9 hw9
                have HK9 := Lib.hid (HK8.out.bl hw9)
                have HC9 := Lib.hid (HC8.out.bl hw9)
                have HV9 := Lib.hid (HV8.out.bl hw9)
                have HO9 := Lib.hid (own_up HO8.out hw9)
                have HT9 := Lib.hid (HT8.out.bl hw9)
                have Hlo9 : RowKit.Hid (w.heap.size ≤ lo5 ∧ lo5 ≤ w9.heap.size) := Lib.hid ⟨Hlo8.out.1, Nat.le_trans Hlo8.out.2 hw9.size⟩
                clear hw9 HK8 HC8 HV8 HO8 Hlo8 HT8 ld2 ld3 ld4
                replace HV9 : RowKit.Hid (Whole w9 b16 47 [.int .i64 x1, .int .i64 x2, .slice A6 (t + 1) c6, .string sx, .int .i64 tx]) := HV9
                go_wp2
                go_roundw
                case rel => exact ⟨k + 1, t + 1, A6, c6, _, by omega, by go_num, Lib.hid (by rw [Hk.out]), HK9, HC9, HV9, HO9, Hlo9, HT9, Lib.hid Hdd.out.symm⟩
                case measure => simp [intOf] <;> omega
              · obtain rfl : m1 = t := by omega
                have hgt : ¬ k ≤ m1 := by have := Hk.out; omega
                have hgt2 : ¬ (k : Int) ≤ (m1 : Int) := by omega
                replace HV : RowKit.Hid (Whole wi b16 47 (vC ((x1, x2), (A4, m1, c4, ds), sx, tx))) := HV
                obtain ⟨iV, hiv, hzv0, hzv1, hzv2⟩ := info_partsD info_vertex
                have HNw : RowKit.Hid (okT L → (Ws ++ [((x1, x2), (A4, m1, c4, ds), sx, tx)]).map vS = Uf.take (j + 1) ∧ M1.drop m1 = restV Ef Uf (j + 1)) := Lib.hid (fun q => by
                  obtain ⟨-, v, hv0, hv, h80, e8, e⟩ := HS.out q
                  obtain ⟨W0_, -, -, hE, h40, -, -⟩ := HF2.out q
                  obtain ⟨hI, -⟩ := HI.out q
                  injection e with e4 e5
                  have hm : m1 = v.2.1.length := by omega
                  have hlm : m1 = (v.2.1.map (dB Ef)).length := by rw [List.length_map]; exact hm
                  have h1 : M1.take m1 = v.2.1.map (dB Ef) := by rw [e5, hlm, List.take_left]
                  have h2 : M1.drop m1 = restV Ef Uf (j + 1) := by rw [e5, hlm, List.drop_left]
                  have h3 : ds = v.2.1 := by rw [Hds.out, h1, hE, ring_back h40 hv]
                  refine ⟨?_, h2⟩
                  rw [List.map_append, hI, List.take_add_one, hv0]
                  have h4 : vS ((x1, x2), (A4, m1, c4, ds), sx, tx) = v := by
                    show ((x1, x2), ds, sx, tx) = v
                    rw [h3]
                    exact Prod.ext (congrArg (fun z => z.1) e8) (Prod.ext rfl (Prod.ext (congrArg (fun z => z.2.1) e8) (congrArg (fun z => z.2.2) e8)))
                  rw [List.map_cons, h4]
                  rfl)
                have HGn : RowKit.Hid (GV (Ws ++ [((x1, x2), (A4, m1, c4, ds), sx, tx)])) := Lib.hid (fun x hx => by
                  rcases List.mem_append.1 hx with q | q
                  · exact HGV.out x q
                  · obtain rfl := List.mem_singleton.1 q
                    refine ⟨?_, HgE.out.2.2, fun d hd => ?_⟩
                    · show ds.length ≤ 255
                      rw [Hds.out, List.length_map, List.length_take]
                      omega
                    · replace hd : d ∈ ds := hd
                      rw [Hds.out] at hd
                      obtain ⟨c, hc, rfl⟩ := List.mem_map.1 hd
                      exact rdD_in (fun e he => ⟨(HG.out e he).1, (HG.out e he).2.1⟩) (HbM.out c (List.mem_cons_of_mem _ (List.mem_of_mem_take hc))))
                clear Hds hp
                go_upto_region 32 with fail
                clear l0 hgt hgt2
                have d0 := HK.out.x2.cell (i := 0) rfl
                refine wp_region_lit ?_
                refine wl_read (v := ?_) (some 135) rfl (by rfl) ?_ ?_
                rotate_left
                · go_simp; (try with_reducible rfl)
                simp only [Act.put, stA_, st0_, st1_]
                refine wl_read (v := ?_) (some 136) rfl (by rfl) ?_ ?_
                rotate_left
                · go_simp; (try with_reducible rfl)
                simp only [Act.put, stA_, st0_, st1_]
                refine wl_load (some 137) rfl (by rfl) 47 (.tmp 16) rfl (b16) rfl 47 (vC ((x1, x2), (A4, m1, c4, ds), sx, tx)) _ HV.out Tryz.underlying47 rfl (by kernel_rfl) ?_
                simp only [Act.put, stA_, st0_, st1_]
                clear d0
                refine wl_buildSlice (some 138) rfl (by rfl) 22 47 1 #[(0, .tmp 137)] (by rfl) Tryz.underlying22 (vC ((x1, x2), (A4, m1, c4, ds), sx, tx)).toArray (by kernel_rfl) ?_
                simp only [Act.put, stA_, st0_, st1_]
                have HOl := Lib.hid (own_lo0 HO.out Hlo.out.1)
                have HKa := Lib.hid (HK.out.al (.cells (vC ((x1, x2), (A4, m1, c4, ds), sx, tx)).toArray 47))
                have HCa := Lib.hid (HC.out.al (.cells (vC ((x1, x2), (A4, m1, c4, ds), sx, tx)).toArray 47))
                have HTa := Lib.hid (HT.out.al (.cells (vC ((x1, x2), (A4, m1, c4, ds), sx, tx)).toArray 47))
                obtain ⟨A6, c6, w6, hrun, hC6, hb6, hg6⟩ := HCa.out.push (P := Tryz.prog) ((x1, x2), (A4, m1, c4, ds), sx, tx) (own_up HOl.out (below1 _ _)) 22 22 iV _ Tryz.underlying22 hiv hzv0 hzv1 hzv2 rfl (by omega) (by have := HK.out.b.size; simp; omega) wi.heap.size (RdS.of_whole (Whole.new2 rfl) rfl)
                refine wl_run (some 139) rfl (by rfl) (exec_append (by rfl) (by rfl) (by rfl) hrun) ?_
                simp only [Act.put, stA_, st0_, st1_]
                have HK6 := Lib.hid (HKa.out.own HCa.out.v (Nat.le_refl _) (by decide) hg6)
                have HT6 := Lib.hid (HTa.out.own HCa.out.v (Nat.le_refl _) hg6)
                have HC6 := Lib.hid hC6
                clear hrun hC6 hb6 hg6 HK HC HV HO HOl HKa HCa HTa HT
                have d0 := HK6.out.x2.cell (i := 0) rfl
                have f0 := HK6.out.x2.free 0
                have HK7 := Lib.hid (HK6.out.setd 0 (.slice A6 (j + 1) c6))
                have HC7 := Lib.hid (HC6.out.far (i := 0) HK6.out.x2 (by decide) (by decide) (by decide) (.slice A6 (j + 1) c6))
                have HT7 := Lib.hid (HT6.out.set (i := 0) HK6.out.n.2.1 (.slice A6 (j + 1) c6))
                clear HK6 HC6 HT6
                go_upto_region 33 with fail
                clear d0 f0
                obtain ⟨w7, gw7⟩ : ∃ z, w6.setCell ⟨b1, 0, none⟩ (.slice A6 (j + 1) c6) = z := ⟨_, rfl⟩
                rw [gw7] at HK7 HC7 HT7 ⊢
                clear gw7
                obtain ⟨bb3, of3, gA, -, hp⟩ := byte_at HT7.out.r (by omega)
                obtain ⟨rfl, rfl⟩ : bb3 = bb2 ∧ of3 = of2 := by
                  injection gA with gA
                  injection gA with q1 q2
                  exact ⟨q1.symm, q2.symm⟩
                clear gA
                have l0 := hp 0 m1 rfl
                rw [Nat.add_zero] at l0
                have hle : me ≤ n3 := by omega
                have hlow := HT7.out.r.low_ (k := me) hle
                rw [show (rowsV f8 (m1 :: M1)).drop (me * 1) = rowsV f8 (M1.drop m1) from by rw [rowsV_map8, rowsV_map8, Nat.mul_one, ← Gme.out, Nat.add_comm 1 m1, List.map_cons, List.drop_succ_cons, List.map_drop]] at hlow
                obtain ⟨A9, hA9⟩ : ∃ A1, (if c3 = me then (some ⟨bb3, of3, none⟩ : Option Addr) else (some ⟨bb3, of3, none⟩ : Option Addr).map (·.add (me * 1))) = A1 := ⟨_, rfl⟩
                rw [hA9] at hlow
                obtain ⟨n9, gn9⟩ : ∃ z, n3 - me = z := ⟨_, rfl⟩
                rw [gn9] at hlow
                have HT8 : RowKit.Hid (Bt w w7 A9 n9 (c3 - me) L (M1.drop m1)) := Lib.hid (HT7.out.next hlow ⟨me, by rw [← Gme.out, Nat.add_comm 1 m1, List.drop_succ_cons]⟩ (lies_low hA9))
                have HAr := Lib.hid hA9
                have Hm9 : RowKit.Hid (me ≤ n3 ∧ n3 - me = n9) := Lib.hid ⟨hle, gn9⟩
                have hw1 : IntKind.i64.wrap (1 + (m1 : Int)) = (me : Int) := by have := Gme.out; rw [IntWalk.i64_in _ (by omega)]; omega
                clear hp hlow hA9 gn9 HT7
                refine wp_region_lit ?_
                refine wl_read (v := ?_) (some 141) rfl (by rfl) ?_ ?_
                rotate_left
                · go_simp; (try with_reducible rfl)
                simp only [Act.put, stA_, st0_, st1_]
                refine wl_read (v := ?_) (some 142) rfl (by rfl) ?_ ?_
                rotate_left
                · go_simp; (try with_reducible rfl)
                simp only [Act.put, stA_, st0_, st1_]
                refine wl_read (v := ?_) (some 143) rfl (by rfl) ?_ ?_
                rotate_left
                · go_simp; (try with_reducible rfl)
                simp only [Act.put, stA_, st0_, st1_]
                refine wl_read (v := ?_) (some 144) rfl (by rfl) ?_ ?_
                rotate_left
                · go_simp; (try with_reducible rfl)
                simp only [Act.put, stA_, st0_, st1_]
                refine wl_read (v := ?_) (some 145) rfl (by rfl) ?_ ?_
                rotate_left
                · go_simp; (try with_reducible rfl)
                simp only [Act.put, stA_, st0_, st1_]
                refine wl_read (v := ?_) (some 146) rfl (by rfl) ?_ ?_
                rotate_left
                · go_simp; (try with_reducible rfl)
                simp only [Act.put, stA_, st0_, st1_]
                refine wl_run (some 147) rfl (by rfl) (exec_slice_low_as 27 5 (.tmp 141) (.tmp 146) rfl Tryz.underlying27 (s := 1) (by kernel_rfl) rfl rfl Hm9.out.1 HAr.out Hm9.out.2 rfl) ?_
                simp only [Act.put, stA_, st0_, st1_]
                clear l0 hw1 v0 d5 d6 HAr Hm9
                go_wp2
                go_roundw
                case rel => exact ⟨j + 1, A6, c6, _, A9, n9, c3 - me, _, by omega, by go_num, rfl, HK7, HC7, HT8, HGn, HNw⟩
                case measure => simp [intOf] <;> omega
        · obtain rfl : m0 = j := by omega
          have hr0 : ∀ x ∈ Ws, x.2.1.2.1 ≤ 1000000 := fun x hx => by
            have h1 := (HGV.out x hx).1
            have h2 := (HC.out.wr.dg.r x hx).2.dlen
            omega
          have HP := Lib.hid (fun W h => rput8_any A2 m0 c2 Ws B2 a0 k2 Es W h (good_of HG.out HGV.out) hr0)
          have HWf : RowKit.Hid (okT L → mayF7 Ws Es = 0 ∧ putD (Ws.map vS) Es = L) := Lib.hid (fun q => by
            obtain ⟨W0_, e0, hf, hE, -, e4, -⟩ := HF2.out q
            obtain ⟨hI, -⟩ := HI.out q
            rw [List.take_of_length_le (by omega)] at hI
            obtain ⟨W1, p1, p2, p3⟩ := q
            rw [HUf.out] at p1 p3
            rw [HEf.out] at p2 p3
            exact ⟨by rw [hE, may7_same (hI.trans p1.symm)]; exact p2, by rw [hI, hE]; exact p3⟩)
          have HRz := Lib.hid (HRw.out.up HK.out.b HK.out.b.size)
          clear hr0 HI HF2 HT
          have d0 := HK.out.x2.cell (i := 0) rfl
          have d1 := HK.out.x2.cell (i := 1) rfl
          by_cases hm : mayF7 Ws Es = 0
          · have HWr : RowKit.Hid (putD (Ws.map vS) Es = L → okT L ∧ rdAE L = Es ∧ rdAV L = Ws.map vS) := Lib.hid (fun e => by
              have g := (may7_formed hm).read []
              rw [List.append_nil, e] at g
              exact ⟨⟨Ws, g.2.symm, by rw [g.1]; exact hm, by rw [g.1, g.2]; exact e⟩, g.1, g.2⟩)
            have htx := txt_eq (putD_lt (Ws.map vS) Es) Hb.out
            unfold pb at HP
            rw [if_pos hm, hm] at HP
            obtain ⟨P, gP⟩ : ∃ z, putD (Ws.map vS) Es = z := ⟨_, rfl⟩
            rw [gP] at HP HWf HWr htx
            obtain ⟨la, gla⟩ : ∃ z, P.length = z := ⟨_, rfl⟩
            rw [gla] at HP
            obtain ⟨tb, gtb⟩ : ∃ z, decide (P = L) = z := ⟨_, rfl⟩
            rw [gtb] at htx
            have Htb := Lib.hid gtb
            obtain ⟨t1, gt1⟩ : ∃ z, txt P = z := ⟨_, rfl⟩
            obtain ⟨t2, gt2⟩ : ∃ z, txt L = z := ⟨_, rfl⟩
            have HV1 : RowKit.Hid (∀ (A : Option Addr) (c : Nat) W, RdS W W.heap.size 1 A la c (rowsV f8 P) → (convert 27 9 (.slice A la c)).run Tryz.prog W = .ok (.string t1) W) := Lib.hid (fun A c W h => gt1 ▸ conv_txt h)
            have HV2 : RowKit.Hid (∀ (A : Option Addr) (n c : Nat) W, RdS W W.heap.size 1 A n c (rowsV f8 L) → (convert 27 9 (.slice A n c)).run Tryz.prog W = .ok (.string t2) W) := Lib.hid (fun A n c W h => gt2 ▸ conv_txt h)
            rw [gt1, gt2] at htx
            have htn : (t1.toList != t2.toList) = !tb := by unfold bne; rw [htx]
            have Htx := Lib.hid htx
            have Htn := Lib.hid htn
            clear htx htn gt1 gt2 gtb gla gP hm
            go_upto_region 35 with (first
              | (go_at_call 8
                 refine (HP.out _ HC.out.wr.dg).mono ?_
                 rintro e w8 ⟨A8, c8, rfl, ho8, hb8⟩
                 have HK8 := Lib.hid (HK.out.bl hb8)
                 have HC8 := Lib.hid (HC.out.bl hb8)
                 have HR8 := Lib.hid (HRz.out.bl hb8)
                 have HQ8 := Lib.hid (own_rds ho8)
                 clear ho8 hb8 d0 d1))
            have u1 := HV1.out _ _ _ HQ8.out
            have u2 := HV2.out _ _ _ _ HR8.out
            have htx := Htx.out
            have htn := Htn.out
            have d0 := HK8.out.x2.cell (i := 0) rfl
            have d1 := HK8.out.x2.cell (i := 1) rfl
            clear HP HK HC HRz HV1 HV2 HQ8 HR8
            cases tb with
            | false =>
              have hno : ¬ okT L := fun q => of_decide_eq_false Htb.out (HWf.out q).2
              have htn2 : (t1.toList != t2.toList) = true := htn
              have e0 := HK8.out.x0.cell (i := 0) rfl
              have e1 := HK8.out.x0.cell (i := 1) rfl
              have f0 := HK8.out.x0.free 0
              have f1 := HK8.out.x0.free 1
              go_wp2
              have HXz := (HK8.out.x0.set_ 0 (.slice none 0 0)).set_ 1 (.slice none 0 0)
              have HBz := (HK8.out.b.setCell (p := ⟨b0, 0, none⟩) HK8.out.n.2.2 (.slice none 0 0)).setCell (p := ⟨b0, 1, none⟩) HK8.out.n.2.2 (.slice none 0 0)
              exact ret_whole2 rfl b0 rfl rfl HXz Tryz.underlying25 rfl (by kernel_rfl) rfl (GivesTR.no HBz hno)
            | true =>
              have htn2 : (t1.toList != t2.toList) = false := htn
              obtain ⟨hok, hE, hV⟩ := HWr.out (of_decide_eq_true Htb.out)
              have Hfin : RowKit.Hid (okT L ∧ rdAE L = Es ∧ rdAV L = Ws.map vS) := Lib.hid ⟨hok, hE, hV⟩
              clear hok hE hV
              have e0 := HK8.out.x0.cell (i := 0) rfl
              have e1 := HK8.out.x0.cell (i := 1) rfl
              have f0 := HK8.out.x0.free 0
              have f1 := HK8.out.x0.free 1
              go_wp2
              have HXz := (HK8.out.x0.set_ 0 (.slice A2 m0 c2)).set_ 1 (.slice B2 a0 k2)
              have HBz := (HK8.out.b.setCell (p := ⟨b0, 0, none⟩) HK8.out.n.2.2 (.slice A2 m0 c2)).setCell (p := ⟨b0, 1, none⟩) HK8.out.n.2.2 (.slice B2 a0 k2)
              have HCz := (HC8.out.far (i := 0) HK8.out.x0 (by decide) (by decide) (by decide) (.slice A2 m0 c2)).far (i := 1) (HK8.out.x0.set_ 0 (.slice A2 m0 c2)) (by decide) (by decide) (by decide) (.slice B2 a0 k2)
              exact ret_whole2 rfl b0 rfl rfl HXz Tryz.underlying25 rfl (by kernel_rfl) rfl ⟨HBz, .inl ⟨Hfin.out.1, A2, m0, c2, B2, a0, k2, Ws, rfl, by rw [Hfin.out.2.1]; exact HCz.wr.dg, Hfin.out.2.2.symm⟩⟩
          · have hno : ¬ okT L := fun q => hm (HWf.out q).1
            obtain ⟨my, gmy⟩ : ∃ z, mayF7 Ws Es = z := ⟨_, rfl⟩
            rw [gmy] at HP hm
            have hne : (my != 0) = true := by simp [hm]
            obtain ⟨P, gP⟩ : ∃ z, pb Ws Es = z := ⟨_, rfl⟩
            rw [gP] at HP
            clear gmy gP HWf
            go_upto_region 35 with (first
              | (go_at_call 8
                 refine (HP.out _ HC.out.wr.dg).mono ?_
                 rintro e w8 ⟨A8, c8, rfl, -, hb8⟩
                 have HK8 := Lib.hid (HK.out.bl hb8)
                 clear hb8 d0 d1))
            have e0 := HK8.out.x0.cell (i := 0) rfl
            have e1 := HK8.out.x0.cell (i := 1) rfl
            have f0 := HK8.out.x0.free 0
            have f1 := HK8.out.x0.free 1
            go_wp2
            have HXz := (HK8.out.x0.set_ 0 (.slice none 0 0)).set_ 1 (.slice none 0 0)
            have HBz := (HK8.out.b.setCell (p := ⟨b0, 0, none⟩) HK8.out.n.2.2 (.slice none 0 0)).setCell (p := ⟨b0, 1, none⟩) HK8.out.n.2.2 (.slice none 0 0)
            exact ret_whole2 rfl b0 rfl rfl HXz Tryz.underlying25 rfl (by kernel_rfl) rfl (GivesTR.no HBz hno)
end Go.Proofs.YtmkflebkifbpfaaGreat
/- PackTakes' walk. -/
namespace Go.Proofs.YtmkflebkifbpfaaGreat
open Go.RowKit
set_option maxRecDepth 100000 in
set_option maxHeartbeats 4000000 in
theorem law_takes (A : Option Addr) (n c : Nat) (L : List Nat) (w : World) (h : RdS w w.heap.size 1 A n c (rowsV f8 L)) (hb : ∀ b ∈ L, b < 256) :
    Calls Tryz.prog 4 #[.slice A n c] w fun e w' => e = .returned (.bool true) ∧ Below w.heap.size w w' := by
  have HR := Lib.hid h
  have Hb := Lib.hid hb
  have Hl : RowKit.Hid (L.length = n) := Lib.hid (h.rlen f8_len (by decide))
  have hnc := h.le
  clear h hb
  go_enter Tryz.func4, Tryz.ntmps4
  go_upto_if 12 with (go_at_call 5; refine (shown08_any _).mono ?_; rintro e w1 ⟨rfl, hb1⟩; have HB1 := Lib.hid hb1; have HR1 := Lib.hid (HR.out.bl hb1); clear hb1 HR)
  go_cut [0] (fun v z => ∃ (n' : Nat) (L' : List Nat), v = .slice A n' c ∧ n' ≤ 3000 ∧ L'.length = n' ∧ (∀ b ∈ L', b < 256) ∧ RdS w1 w1.heap.size 1 A n' c (rowsV f8 L') ∧ w1 = z)
  case first =>
    by_cases hn : 3000 < n
    · have ht : (3000 : Int) < (n : Int) := by omega
      have h100 : 3000 ≤ c := by omega
      go_wp2_with fail
      go_meet
      refine ⟨3000, L.take 3000, rfl, Nat.le_refl _, by rw [List.length_take, Hl.out]; omega, fun b hb => Hb.out b (List.mem_of_mem_take hb), ?_, rfl⟩
      have t1 := HR1.out.take_ 3000 (by omega)
      rw [rowsV_map8] at t1 ⊢
      rw [List.map_take]
      exact t1
    · have ht : ¬ (3000 : Int) < (n : Int) := by omega
      go_wp2_with fail
      go_meet
      exact ⟨n, L, rfl, by omega, Hl.out, Hb.out, HR1.out, rfl⟩
  case rest =>
  obtain ⟨n', L', rfl, hn', hl', hb', hr', hz⟩ := hcut
  subst hz
  have HL := Lib.hid hr'
  have Hb' := Lib.hid hb'
  have HG1 := Lib.hid (fun A c W h => take_any A n' c L' W h hb' (by omega))
  have HG2 := Lib.hid (fun A c W h => rtake_any A n' c L' W h hb' (by omega))
  have hO0 : Ow w1 w1.heap.size 5 1 (.slice (some ⟨w1.heap.size, 0, none⟩) 0 0) 0 (rowsV f8 []) (w1.alloc (.cells #[] 5)) := Ow.new_ (cs := #[]) (Below.refl _ _) (Nat.le_refl _) (Nat.le_refl _) (Nat.zero_le _) rfl
  obtain ⟨A2, c2, w2, hrun, ho2, -⟩ := app8 27 hO0 (HL.out.al (.cells #[] 5)) (by omega)
  rw [Nat.zero_add, List.nil_append] at ho2
  rw [Nat.zero_add] at hrun
  have HL2 := Lib.hid (HL.out.bl ho2.below)
  have HC2 := Lib.hid (own_rds ho2.own)
  have HB2 : RowKit.Hid (Below w.heap.size w w2) := Lib.hid (bel_bl HB1.out ho2.below)
  clear hr' hl' HR1 Hb Hl hnc hn' hO0 ho2 hb'
  by_cases hok : okT L'
  · obtain ⟨W0, e0, hm0, hf0, -⟩ := okT_is hok
    have h24 := hf0.v24
    have h40 := hf0.e40
    have HW : RowKit.Hid (∀ (Ws : List VC), Ws.map vS = rdAV L' → Ws.length ≤ 24 ∧ mayF7 Ws (rdAE L') = 0 ∧ GoodD Ws (rdAE L') ∧ ∀ x ∈ Ws, x.2.1.2.2.2.length ≤ 255) := Lib.hid (fun Ws hW => by
      have h1 := congrArg List.length (hW.trans e0.symm)
      rw [List.length_map, List.length_map] at h1
      have h2 := read_good Hb'.out hW
      exact ⟨by omega, by rw [may7_same (hW.trans e0.symm)]; exact hm0, h2.1, h2.2⟩)
    have HT1 : RowKit.Hid (∀ (A : Option Addr) (c : Nat) W, RdS W W.heap.size 1 A n' c (rowsV f8 L') → Calls Tryz.prog 9 #[.slice A n' c] W fun e w' => ∃ A' n1 c' B' m' k' Ws, e = .returned (.tuple #[.agg #[.slice A' n1 c', .slice B' m' k'], .int .i64 0]) ∧ DgIn w' A' n1 c' Ws B' m' k' (rdAE L') ∧ Ws.map vS = rdAV L' ∧ Below W.heap.size W w') := Lib.hid (fun A c W h => by
      refine (HG1.out A c W h).mono ?_
      rintro e w' ⟨hb, ⟨-, A', n1, c', B', m', k', Ws, he, hc, hw⟩ | ⟨hno, -⟩⟩
      · exact ⟨A', n1, c', B', m', k', Ws, he, hc.wr.dg, hw, hb⟩
      · exact absurd hok hno)
    have HT2 : RowKit.Hid (∀ (A : Option Addr) (c : Nat) W, RdS W W.heap.size 1 A n' c (rowsV f8 L') → Calls Tryz.prog 10 #[.slice A n' c] W fun e w' => ∃ A' n1 c' B' m' k' Ws, e = .returned (.tuple #[.agg #[.slice A' n1 c', .slice B' m' k'], .int .i64 0]) ∧ DgIn w' A' n1 c' Ws B' m' k' (rdAE L') ∧ Ws.map vS = rdAV L' ∧ Below W.heap.size W w') := Lib.hid (fun A c W h => by
      refine (HG2.out A c W h).mono ?_
      rintro e w' ⟨hb, ⟨-, A', n1, c', B', m', k', Ws, he, hc, hw⟩ | ⟨hno, -⟩⟩
      · exact ⟨A', n1, c', B', m', k', Ws, he, hc, hw, hb⟩
      · exact absurd hok hno)
    have He40 := Lib.hid h40
    clear hok e0 hm0 hf0 h24 h40 HG1 HG2
    go_upto_region 5 with (first
      | (at_builtin
         refine wl_run (some 18) rfl (by rfl) (exec_append (by rfl) (by rfl) (by rfl) hrun) ?_
         clear hrun)
      | (go_at_call 9
         refine (HT1.out _ _ _ HC2.out).mono ?_
         rintro e w3 ⟨A3, n3, c3, B3, m3, k3, Wx, rfl, hd3, hs3, hb3⟩
         have hE : Ext w3 (w3.alloc (.cells #[.slice A3 n3 c3, .slice B3 m3 k3] 25)) := below1 w3 _
         have HL3 := Lib.hid ((HL2.out.bl hb3).bl hE)
         have HB3 : RowKit.Hid (Below w.heap.size w (w3.alloc (.cells #[.slice A3 n3 c3, .slice B3 m3 k3] 25))) := Lib.hid (bel_bl (bel_bl HB2.out hb3) hE)
         have HD3 := Lib.hid (hd3.below hE)
         have HX3 : RowKit.Hid (Whole (w3.alloc (.cells #[.slice A3 n3 c3, .slice B3 m3 k3] 25)) w3.heap.size 25 [.slice A3 n3 c3, .slice B3 m3 k3]) := Lib.hid (Whole.new_ _ _ [_, _])
         have HSx := Lib.hid hs3
         clear hd3 hs3 hb3 hE))
    clear HL HB1 HL2 HC2 HB2 HT1
    obtain ⟨w4, gw4⟩ : ∃ z, w3.alloc (.cells #[.slice A3 n3 c3, .slice B3 m3 k3] 25) = z := ⟨_, rfl⟩
    obtain ⟨b4, gb4⟩ : ∃ z, w3.heap.size = z := ⟨_, rfl⟩
    rw [gw4] at HL3 HB3 HD3 HX3 ⊢
    rw [gb4] at HX3 ⊢
    clear gw4 gb4
    go_upto_region 6 with (first
      | (go_at_call 10
         refine (HT2.out _ _ _ HL3.out).mono ?_
         rintro e w5 ⟨A5, n5, c5, B5, m5, k5, Wy, rfl, hd5, hs5, hb5⟩
         have hE : Ext w5 (w5.alloc (.cells #[.slice A5 n5 c5, .slice B5 m5 k5] 25)) := below1 w5 _
         have HB5 : RowKit.Hid (Below w.heap.size w (w5.alloc (.cells #[.slice A5 n5 c5, .slice B5 m5 k5] 25))) := Lib.hid (bel_bl (bel_bl HB3.out hb5) hE)
         have HD5 := Lib.hid ((HD3.out.below hb5).below hE)
         have HX5 := Lib.hid ((HX3.out.bl hb5).bl hE)
         have HE5 := Lib.hid (hd5.below hE)
         have HY5 : RowKit.Hid (Whole (w5.alloc (.cells #[.slice A5 n5 c5, .slice B5 m5 k5] 25)) w5.heap.size 25 [.slice A5 n5 c5, .slice B5 m5 k5]) := Lib.hid (Whole.new_ _ _ [_, _])
         have HSy := Lib.hid hs5
         clear hd5 hs5 hb5 hE))
    clear HL3 HB3 HD3 HX3 HT2
    obtain ⟨w6, gw6⟩ : ∃ z, w5.alloc (.cells #[.slice A5 n5 c5, .slice B5 m5 k5] 25) = z := ⟨_, rfl⟩
    obtain ⟨b6, gb6⟩ : ∃ z, w5.heap.size = z := ⟨_, rfl⟩
    rw [gw6] at HB5 HD5 HX5 HE5 HY5 ⊢
    rw [gb6] at HY5 ⊢
    clear gw6 gb6
    have HSm : RowKit.Hid (∀ W, DgIn W A3 n3 c3 Wx B3 m3 k3 (rdAE L') → DgIn W A5 n5 c5 Wy B5 m5 k5 (rdAE L') → Calls Tryz.prog 11 #[.agg #[.slice A3 n3 c3, .slice B3 m3 k3], .agg #[.slice A5 n5 c5, .slice B5 m5 k5]] W fun e w' => e = .returned (.bool true) ∧ Below W.heap.size W w') := Lib.hid (fun W h1 h2 => by
      have e1 := h1.v.rlen vC_len (by decide)
      have e2 := h1.e.rlen eC_len (by decide)
      have e3 := (HW.out Wx HSx.out).1
      have e4 := He40.out
      have h9 := rsame_any A3 n3 c3 Wx B3 m3 k3 _ A5 n5 c5 Wy B5 m5 k5 _ W h1 h2 (by omega) (by omega)
      rwa [decide_eq_true ⟨HSx.out.trans HSy.out.symm, rfl⟩] at h9)
    have HMy : RowKit.Hid (∀ W, DgIn W A3 n3 c3 Wx B3 m3 k3 (rdAE L') → Calls Tryz.prog 12 #[.agg #[.slice A3 n3 c3, .slice B3 m3 k3]] W fun e w' => e = .returned (.int .i64 0) ∧ Below W.heap.size W w') := Lib.hid (fun W h1 => by
      obtain ⟨-, q2, q3, q4⟩ := HW.out Wx HSx.out
      have h9 := rmay7b_any (A := A3) (n := n3) (c := c3) (B := B3) (m := m3) (k := k3) (fun x hx => by have h1 := q4 x hx; have h2 := (HD5.out.r x hx).2.dlen; omega) q3 W h1
      rw [q2] at h9
      exact h9)
    clear HW HSx HSy He40
    have d0 := HX5.out.cell (i := 0) rfl
    have d1 := HX5.out.cell (i := 1) rfl
    have q0 := HY5.out.cell (i := 0) rfl
    have q1 := HY5.out.cell (i := 1) rfl
    go_upto_region 7 with (first
      | (go_at_call 11
         refine (HSm.out _ HD5.out HE5.out).mono ?_
         rintro e w8 ⟨rfl, hb8⟩
         have HB8 : RowKit.Hid (Below w.heap.size w w8) := Lib.hid (bel_bl HB5.out hb8)
         have HD8 := Lib.hid (HD5.out.below hb8)
         have HX8 := Lib.hid (HX5.out.bl hb8)
         clear hb8 d0 d1 q0 q1))
    clear HB5 HD5 HX5 HE5 HY5 HSm
    have d0 := HX8.out.cell (i := 0) rfl
    have d1 := HX8.out.cell (i := 1) rfl
    go_wp2_with (first
      | (go_at_call 12
         refine (HMy.out _ HD8.out).mono ?_
         rintro e w9 ⟨rfl, hb9⟩
         have HB9 : RowKit.Hid (Below w.heap.size w w9) := Lib.hid (bel_bl HB8.out hb9)
         clear hb9 d0 d1))
    go_ret
    exact ⟨by first | rfl | simp, HB9.out⟩
  · have HT1 : RowKit.Hid (∀ (A : Option Addr) (c : Nat) W, RdS W W.heap.size 1 A n' c (rowsV f8 L') → Calls Tryz.prog 9 #[.slice A n' c] W fun e w' => e = .returned (.tuple #[.agg #[.slice none 0 0, .slice none 0 0], .int .i64 2]) ∧ Below W.heap.size W w') := Lib.hid (fun A c W h => by
      refine (HG1.out A c W h).mono ?_
      rintro e w' ⟨hb, ⟨hy, -⟩ | ⟨-, he⟩⟩
      · exact absurd hy hok
      · exact ⟨he, hb⟩)
    have HT2 : RowKit.Hid (∀ (A : Option Addr) (c : Nat) W, RdS W W.heap.size 1 A n' c (rowsV f8 L') → Calls Tryz.prog 10 #[.slice A n' c] W fun e w' => e = .returned (.tuple #[.agg #[.slice none 0 0, .slice none 0 0], .int .i64 2]) ∧ Below W.heap.size W w') := Lib.hid (fun A c W h => by
      refine (HG2.out A c W h).mono ?_
      rintro e w' ⟨hb, ⟨hy, -⟩ | ⟨-, he⟩⟩
      · exact absurd hy hok
      · exact ⟨he, hb⟩)
    have HSm : RowKit.Hid (∀ W, Calls Tryz.prog 11 #[.agg #[.slice none 0 0, .slice none 0 0], .agg #[.slice none 0 0, .slice none 0 0]] W fun e w' => e = .returned (.bool true) ∧ Below W.heap.size W w') := Lib.hid (fun W => by
      have h1 : DgIn W none 0 0 [] none 0 0 [] := ⟨RdS.no _ _ _, RdS.no _ _ _, fun x hx => (by cases hx)⟩
      have h9 := rsame_any none 0 0 [] none 0 0 [] none 0 0 [] none 0 0 [] W h1 h1 (by omega) (by omega)
      rwa [decide_eq_true ⟨rfl, rfl⟩] at h9)
    clear hok HG1 HG2
    go_upto_region 5 with (first
      | (at_builtin
         refine wl_run (some 18) rfl (by rfl) (exec_append (by rfl) (by rfl) (by rfl) hrun) ?_
         clear hrun)
      | (go_at_call 9
         refine (HT1.out _ _ _ HC2.out).mono ?_
         rintro e w3 ⟨rfl, hb3⟩
         have hE : Ext w3 (w3.alloc (.cells #[.slice none 0 0, .slice none 0 0] 25)) := below1 w3 _
         have HL3 := Lib.hid ((HL2.out.bl hb3).bl hE)
         have HB3 : RowKit.Hid (Below w.heap.size w (w3.alloc (.cells #[.slice none 0 0, .slice none 0 0] 25))) := Lib.hid (bel_bl (bel_bl HB2.out hb3) hE)
         have HX3 : RowKit.Hid (Whole (w3.alloc (.cells #[.slice none 0 0, .slice none 0 0] 25)) w3.heap.size 25 [.slice none 0 0, .slice none 0 0]) := Lib.hid (Whole.new_ _ _ [_, _])
         clear hb3 hE))
    clear HL HB1 HL2 HC2 HB2 HT1
    obtain ⟨w4, gw4⟩ : ∃ z, w3.alloc (.cells #[.slice none 0 0, .slice none 0 0] 25) = z := ⟨_, rfl⟩
    obtain ⟨b4, gb4⟩ : ∃ z, w3.heap.size = z := ⟨_, rfl⟩
    rw [gw4] at HL3 HB3 HX3 ⊢
    rw [gb4] at HX3 ⊢
    clear gw4 gb4
    go_upto_region 6 with (first
      | (go_at_call 10
         refine (HT2.out _ _ _ HL3.out).mono ?_
         rintro e w5 ⟨rfl, hb5⟩
         have hE : Ext w5 (w5.alloc (.cells #[.slice none 0 0, .slice none 0 0] 25)) := below1 w5 _
         have HB5 : RowKit.Hid (Below w.heap.size w (w5.alloc (.cells #[.slice none 0 0, .slice none 0 0] 25))) := Lib.hid (bel_bl (bel_bl HB3.out hb5) hE)
         have HX5 := Lib.hid ((HX3.out.bl hb5).bl hE)
         have HY5 : RowKit.Hid (Whole (w5.alloc (.cells #[.slice none 0 0, .slice none 0 0] 25)) w5.heap.size 25 [.slice none 0 0, .slice none 0 0]) := Lib.hid (Whole.new_ _ _ [_, _])
         clear hb5 hE))
    clear HL3 HB3 HX3 HT2
    obtain ⟨w6, gw6⟩ : ∃ z, w5.alloc (.cells #[.slice none 0 0, .slice none 0 0] 25) = z := ⟨_, rfl⟩
    obtain ⟨b6, gb6⟩ : ∃ z, w5.heap.size = z := ⟨_, rfl⟩
    rw [gw6] at HB5 HX5 HY5 ⊢
    rw [gb6] at HY5 ⊢
    clear gw6 gb6
    have d0 := HX5.out.cell (i := 0) rfl
    have d1 := HX5.out.cell (i := 1) rfl
    have q0 := HY5.out.cell (i := 0) rfl
    have q1 := HY5.out.cell (i := 1) rfl
    go_wp2_with (first
      | (go_at_call 11
         refine (HSm.out _).mono ?_
         rintro e w8 ⟨rfl, hb8⟩
         have HB8 : RowKit.Hid (Below w.heap.size w w8) := Lib.hid (bel_bl HB5.out hb8)
         clear hb8 d0 d1 q0 q1))
    go_ret
    exact ⟨by first | rfl | simp, HB8.out⟩
end Go.Proofs.YtmkflebkifbpfaaGreat
/- 'PackTakes' answers true for every row of bytes.
   No condition beyond the row's own. -/
namespace Go.Proofs.YtmkflebkifbpfaaGreat
open Go.ChangeShapes Go.WideShapes Go.ChangeAt Go.RowKit
namespace lawPackTakes
set_option maxRecDepth 100000 in
theorem contract (H : Type) (enc : TypeId × Value → H) (W : World) (base : Nat) (args : Array Value) (ds gs : List (DataW H)) (before : List MemPlace)
    (hval : ∀ (j : Nat) t v, Tryz.f4.params[j]? = some t → args[j]? = some v → Value.okWide Tryz.prog W .any base t v)
    (hW : DataW.Whole enc Tryz.prog Tryz.f4.params.toList Rows.packTakesSpec.vars false W args.toList ds gs before) :
    Calls Tryz.prog 4 args W fun e W' => ∃ v, e = .returned v ∧ Rows.packTakesSpec.post enc Tryz.prog Tryz.f4 false true false false W args v W' := by
  have hW' := hW
  obtain ⟨p, q, hA, hV, rfl, hfz, hnd⟩ := hW
  obtain ⟨rfl, rfl⟩ := trodVars_none hV
  rw [Tryz.params4] at hA hval
  obtain ⟨v0, d0, rfl, rfl, h0⟩ := trodAll_one hA
  obtain ⟨b, rfl, hx0⟩ := open_row1_slice (row1_byte H) Tryz.underlying27 (by kernel_rfl) f8_len (by decide) (hval 0 27 v0 rfl rfl) h0
  refine (law_takes b.1 b.2.1 b.2.2.1 b.2.2.2 W hx0.2.1 hx0.2.2).mono fun e W' ⟨he, hb⟩ => ⟨_, he, ?_⟩
  exact law_post Tryz.laidOut (by kernel_rfl) (tb := 4) (by kernel_rfl) Tryz.underlying4 rfl ⟨rfl, rfl, rfl⟩ hW' hb
set_option maxRecDepth 100000 in
theorem lifted (os : Os) (started : os.Started) (H : Type) (enc : TypeId × Value → H) :
    ReturnsInHanded {} Tryz.checked os 4 .any (Rows.packTakesSpec.pre6 enc Tryz.prog Tryz.f4 Rows.packTakesRow.domain false) (Rows.packTakesSpec.post enc Tryz.prog Tryz.f4 false true false false) := by
  refine returnsInHanded_of_change (C := Tryz.checked) Tryz.own started (by kernel_rfl) Tryz.func4
    (ChangeSpec.witness6 (enc := enc) (C := Tryz.checked) false ⟨#[], #[.slice none 0 0], []⟩ 8 (by kernel_rfl) (by kernel_rfl) (by kernel_rfl) (by kernel_rfl)) ?_
  intro W base args ds gs before hval hW _ _
  exact contract H enc W base args ds gs before hval hW
theorem proved : Rows.PackTakesSaid :=
  OpenClaim.holds_of_wide 4 Tryz.f4 rfl rfl rfl rfl rfl rfl rfl ⟨rfl, rfl, rfl, rfl, rfl⟩ rfl rfl rfl rfl rfl (by kernel_rfl) Tryz.func4 (by kernel_rfl)
    (of_decide_eq_true (by kernel_rfl)) (by unfold Func.isWrapper; first | (rw [if_pos (by decide +kernel)]; kernel_rfl) | (rw [if_neg (by decide +kernel)]; exact ⟨rfl, rfl⟩))
    (fun os started H enc _ => lifted os started H enc)
end lawPackTakes
end Go.Proofs.YtmkflebkifbpfaaGreat
