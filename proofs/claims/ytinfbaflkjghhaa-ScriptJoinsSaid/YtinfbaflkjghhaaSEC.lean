/- Several texts in one. -/
import Derived.Test.YtinfbaflkjghhaaSEA
import Derived.Test.YtinfbaflkjghhaaSEB
import Derived.Deep.MidRow
import Derived.Laws.RangeString
import Derived.Laws.RangeAny
import Derived.LoopTactic
import Derived.Deep.WholeRow
import Derived.Great.Walk
/- Out of XDg2, XPk16 -/
set_option linter.unusedSimpArgs false
set_option linter.unusedVariables false
namespace Go.Proofs.Ytinfbaflkjghhaa
open Go.RowKit
theorem ret_whole {P : Program} {fn : Func} {R : Ending → World → Prop} {a : Act} {w : World} {p : Tmp} {t : TypeId} (h : fn.results = #[.cell p t]) (g : Nat) {t' : TypeId} {cs : List Value} {d : TypeDesc}
    (hp : a.tmps.getD p undef = .pointer (some ⟨g, 0, none⟩)) (hW : Whole w g t' cs) (hu : P.underlying t = some d) (hd : d.isRow = true) (hi : (P.info? t).map (·.size) = some cs.length)
    (hdf : a.defers = []) (hR : R (.returned (.agg cs.toArray)) w) : bodyPost P fn R .ret a w := by
  refine bodyPost_ret (v := .agg cs.toArray) ?_ hdf hR
  have hl := run_loadVar_mid (P := P) w g 0 t cs d (fun j v hv => by
    have := hW.cell hv
    simpa using this) hu hd hi
  have hp2 := hp
  rw [Array.getD_eq_getD_getElem?] at hp2
  simp [results, h, hp2, asAddr, Sem.run_bind, Result.andThen, hl]
theorem byte_lt {L : List Nat} (h : ∀ b ∈ L, b < 256) : c1 L < 256 := by
  cases L with
  | nil => show 0 < 256; omega
  | cons a l => exact h a (by simp)
theorem i64_or_16 (x y : Nat) (hx : x < 256) (hy : y < 65536) : bits .or .i64 ((x : Int) * 65536) (y : Int) = ((x * 65536 + y : Nat) : Int) := by
  have e : ((x : Int) * 65536) = ((2 ^ 16 * x : Nat) : Int) := by omega
  rw [e]
  show IntKind.i64.wrap ((BitVec.ofInt 64 ((2 ^ 16 * x : Nat) : Int) ||| BitVec.ofInt 64 (y : Int)).toNat : Int) = _
  rw [BitVec.toNat_or, ofInt_64 _ (by omega), ofInt_64 y (by omega), ← Nat.two_pow_add_eq_or_of_lt (by omega) x, IntWalk.i64_in _ (by omega)]
  omega
theorem i64_or_8 (x y : Nat) (hx : x < 16777216) (hy : y < 256) : bits .or .i64 ((x * 256 : Nat) : Int) (y : Int) = ((x * 256 + y : Nat) : Int) := by
  have e : ((x * 256 : Nat) : Int) = ((2 ^ 8 * x : Nat) : Int) := by omega
  rw [e]
  show IntKind.i64.wrap ((BitVec.ofInt 64 ((2 ^ 8 * x : Nat) : Int) ||| BitVec.ofInt 64 (y : Int)).toNat : Int) = _
  rw [BitVec.toNat_or, ofInt_64 _ (by omega), ofInt_64 y (by omega), ← Nat.two_pow_add_eq_or_of_lt (by omega) x, IntWalk.i64_in _ (by omega)]
  omega
theorem ret_whole3 {P : Program} {fn : Func} {R : Ending → World → Prop} {a : Act} {w : World} {p u u2 : Tmp} {t : TypeId} (h : fn.results = #[.cell p t, .tmp u, .tmp u2]) (g : Nat) {t' : TypeId} {cs : List Value} {d : TypeDesc} {v v2 : Value}
    (hp : a.tmps.getD p undef = .pointer (some ⟨g, 0, none⟩)) (hv : a.tmps.getD u undef = v) (hv2 : a.tmps.getD u2 undef = v2) (hW : Whole w g t' cs) (hu : P.underlying t = some d) (hd : d.isRow = true) (hi : (P.info? t).map (·.size) = some cs.length)
    (hdf : a.defers = []) (hR : R (.returned (.tuple #[.agg cs.toArray, v, v2])) w) : bodyPost P fn R .ret a w := by
  refine bodyPost_ret (v := .tuple #[.agg cs.toArray, v, v2]) ?_ hdf hR
  have hl := run_loadVar_mid (P := P) w g 0 t cs d (fun j v hv => by
    have := hW.cell hv
    simpa using this) hu hd hi
  have hp2 := hp
  have hv3 := hv
  have hv4 := hv2
  rw [Array.getD_eq_getD_getElem?] at hp2 hv3 hv4
  simp [results, h, hp2, hv3, hv4, asAddr, Sem.run_bind, Result.andThen, hl]
set_option maxRecDepth 100000 in
set_option maxHeartbeats 4000000 in
theorem first_any (A : Option Addr) (n c : Nat) (b0 b1 b2 b3 : Nat) (R : List Nat) (w : World) (h : RdS w w.heap.size 1 A n c (rowsV f8 (b0 :: b1 :: b2 :: b3 :: R))) (h0 : b0 < 256) (h1 : b1 < 256) (h2 : b2 < 256) (h3 : b3 < 256) :
    Calls Try.prog 108 #[.slice A n c] w fun e w' => e = .returned (.agg #[.int .i64 (b0 : Int), .int .i64 (65536 * (b1 : Int) + 256 * (b2 : Int) + (b3 : Int))]) ∧ Below w.heap.size w w' := by
  have hl := h.rlen f8_len (by decide)
  simp only [List.length_cons] at hl
  obtain ⟨bb, off, rfl, hbb, hp⟩ := byte_at h (by omega)
  have q0 := hp 0 b0 rfl
  have q1 := hp 1 b1 rfl
  have q2 := hp 2 b2 rfl
  have q3 := hp 3 b3 rfl
  rw [Nat.add_zero] at q0
  have hE : Ext w (w.alloc (.cells #[.int .i64 0, .int .i64 0] 47)) := below1 w _
  have HX : RowKit.Hid (Whole (w.alloc (.cells #[.int .i64 0, .int .i64 0] 47)) w.heap.size 47 [.int .i64 0, .int .i64 0]) := Lib.hid (Whole.new_ _ _ [_, _])
  have Q0 := Lib.hid (hE.cell q0)
  have Q1 := Lib.hid (hE.cell q1)
  have Q2 := Lib.hid (hE.cell q2)
  have Q3 := Lib.hid (hE.cell q3)
  have HE := Lib.hid hE
  have hm0 : 0 < n := by omega
  have hm1 : 1 < n := by omega
  have hm2 : 2 < n := by omega
  have hm3 : 3 < n := by omega
  have hn0 : (0 : Int) < (n : Int) := by omega
  have hn1 : (1 : Int) < (n : Int) := by omega
  have hn2 : (2 : Int) < (n : Int) := by omega
  have hn3 : (3 : Int) < (n : Int) := by omega
  have hd1 : decide ((n : Int) < 4) = false := decide_eq_false (by omega)
  have hd2 : decide (n < 4) = false := decide_eq_false (by omega)
  have w0 : IntKind.i64.wrap (b0 : Int) = (b0 : Int) := IntWalk.i64_in _ (by omega)
  have w1 : IntKind.i64.wrap (b1 : Int) = (b1 : Int) := IntWalk.i64_in _ (by omega)
  have w2 : IntKind.i64.wrap (b2 : Int) = (b2 : Int) := IntWalk.i64_in _ (by omega)
  have w3 : IntKind.i64.wrap (b3 : Int) = (b3 : Int) := IntWalk.i64_in _ (by omega)
  have w4 : IntKind.i64.wrap ((b1 : Int) * 65536) = (b1 : Int) * 65536 := IntWalk.i64_in _ (by omega)
  obtain ⟨x2, gx2⟩ : ∃ z, b2 * 256 = z := ⟨_, rfl⟩
  have w5 : IntKind.i64.wrap ((b2 : Int) * 256) = (x2 : Int) := by rw [IntWalk.i64_in _ (by omega)]; omega
  have o1 := i64_or_16 b1 x2 h1 (by omega)
  obtain ⟨x3, gx3⟩ : ∃ z, b1 * 256 + b2 = z := ⟨_, rfl⟩
  have o2 := i64_or_8 x3 b3 (by omega) h3
  obtain ⟨x4, gx4⟩ : ∃ z, b1 * 65536 + x2 = z := ⟨_, rfl⟩
  rw [show x3 * 256 = x4 by omega] at o2
  rw [gx4] at o1
  obtain ⟨x5, gx5⟩ : ∃ z, x4 + b3 = z := ⟨_, rfl⟩
  rw [gx5] at o2
  have Hx5 : RowKit.Hid (65536 * (b1 : Int) + 256 * (b2 : Int) + (b3 : Int) = (x5 : Int)) := Lib.hid (by omega)
  rw [Hx5.out]
  clear h hl hp q0 q1 q2 q3 hE gx2 gx3 gx4 gx5 hbb
  go_enter Try.func108, Try.ntmps108
  go_upto_region 3 with fail
  obtain ⟨w8, gw8⟩ : ∃ z, w.alloc (.cells #[.int .i64 0, .int .i64 0] 47) = z := ⟨_, rfl⟩
  obtain ⟨b9, gb9⟩ : ∃ z, w.heap.size = z := ⟨_, rfl⟩
  rw [gw8] at HX Q0 Q1 Q2 Q3 HE ⊢
  rw [gb9] at HX ⊢
  have Gb9 := Lib.hid gb9
  clear gw8 gb9 hd1 hd2
  have ld0 : ∀ w', Kept Nil_ w8.drew w' → w'.cell? ⟨bb, off, none⟩ = some (.int .u8 (b0 : Int)) := fun w' h => h.nil_cell (show w8.drew.cell? _ = _ from Q0.out)
  have ld1 : ∀ w', Kept Nil_ w8.drew w' → w'.cell? ⟨bb, off + 1, none⟩ = some (.int .u8 (b1 : Int)) := fun w' h => h.nil_cell (show w8.drew.cell? _ = _ from Q1.out)
  have ld2 : ∀ w', Kept Nil_ w8.drew w' → w'.cell? ⟨bb, off + 2, none⟩ = some (.int .u8 (b2 : Int)) := fun w' h => h.nil_cell (show w8.drew.cell? _ = _ from Q2.out)
  have ld3 : ∀ w', Kept Nil_ w8.drew w' → w'.cell? ⟨bb, off + 3, none⟩ = some (.int .u8 (b3 : Int)) := fun w' h => h.nil_cell (show w8.drew.cell? _ = _ from Q3.out)
  refine wp_region_tail (Nil_) [21] (by kernel_rfl) ?_
  apply wpT_next 0 (some 7) (by kernel_rfl)
  · rfl
  · rfl
  · kernel_rfl
  · kernel_rfl
  · kernel_rfl
  · exact fun _ _ _ _ h => h
  apply Exists.intro
  apply And.intro
  · apply yr_run; rfl; intro w' hw'; go_simp; (try with_reducible rfl)
  simp only [Act.put, stA_, st0_, st1_]
  apply wpT_next 1 (some 8) (by kernel_rfl)
  · rfl
  · rfl
  · kernel_rfl
  · kernel_rfl
  · kernel_rfl
  · exact fun _ _ _ _ h => h
  apply Exists.intro
  apply And.intro
  · apply yr_run; rfl; intro w' hw'; go_simp; (try with_reducible rfl)
  simp only [Act.put, stA_, st0_, st1_]
  apply wpT_next 2 (some 9) (by kernel_rfl)
  · rfl
  · rfl
  · kernel_rfl
  · kernel_rfl
  · kernel_rfl
  · exact fun _ _ _ _ h => h
  apply Exists.intro
  apply And.intro
  · apply yr_run; rfl; intro w' hw'; go_simp; (try with_reducible rfl)
  simp only [Act.put, stA_, st0_, st1_]
  apply wpT_next 3 (some 10) (by kernel_rfl)
  · rfl
  · rfl
  · kernel_rfl
  · kernel_rfl
  · kernel_rfl
  · exact fun _ _ _ _ h => h
  apply Exists.intro
  apply And.intro
  · apply yr_run; rfl; intro w' hw'; go_simp; (try with_reducible rfl)
  simp only [Act.put, stA_, st0_, st1_]
  apply wpT_next 4 (some 11) (by kernel_rfl)
  · rfl
  · rfl
  · kernel_rfl
  · kernel_rfl
  · kernel_rfl
  · exact fun _ _ _ _ h => h
  apply Exists.intro
  apply And.intro
  · apply yr_run; rfl; intro w' hw'; go_simp; (try with_reducible rfl)
  simp only [Act.put, stA_, st0_, st1_]
  apply wpT_next 5 (some 12) (by kernel_rfl)
  · rfl
  · rfl
  · kernel_rfl
  · kernel_rfl
  · kernel_rfl
  · exact fun _ _ _ _ h => h
  apply Exists.intro
  apply And.intro
  · apply yr_run; rfl; intro w' hw'; go_simp; (try with_reducible rfl)
  simp only [Act.put, stA_, st0_, st1_]
  apply wpT_next 6 (some 13) (by kernel_rfl)
  · rfl
  · rfl
  · kernel_rfl
  · kernel_rfl
  · kernel_rfl
  · exact fun _ _ _ _ h => h
  apply Exists.intro
  apply And.intro
  · apply yr_run; rfl; intro w' hw'; go_simp; (try with_reducible rfl)
  simp only [Act.put, stA_, st0_, st1_]
  apply wpT_next 7 (some 14) (by kernel_rfl)
  · rfl
  · rfl
  · kernel_rfl
  · kernel_rfl
  · kernel_rfl
  · exact fun _ _ _ _ h => h
  apply Exists.intro
  apply And.intro
  · apply yr_run; rfl; intro w' hw'; go_simp; (try with_reducible rfl)
  simp only [Act.put, stA_, st0_, st1_]
  apply wpT_next 8 (some 15) (by kernel_rfl)
  · rfl
  · rfl
  · kernel_rfl
  · kernel_rfl
  · kernel_rfl
  · exact fun _ _ _ _ h => h
  apply Exists.intro
  apply And.intro
  · apply yr_run; rfl; intro w' hw'; go_simp; (try with_reducible rfl)
  simp only [Act.put, stA_, st0_, st1_]
  apply wpT_next 9 (some 16) (by kernel_rfl)
  · rfl
  · rfl
  · kernel_rfl
  · kernel_rfl
  · kernel_rfl
  · exact fun _ _ _ _ h => h
  apply Exists.intro
  apply And.intro
  · apply yr_run; rfl; intro w' hw'; go_simp; (try with_reducible rfl)
  simp only [Act.put, stA_, st0_, st1_]
  apply wpT_next 10 (some 17) (by kernel_rfl)
  · rfl
  · rfl
  · kernel_rfl
  · kernel_rfl
  · kernel_rfl
  · exact fun _ _ _ _ h => h
  apply Exists.intro
  apply And.intro
  · apply yr_run; rfl; intro w' hw'; go_simp; (try with_reducible rfl)
  simp only [Act.put, stA_, st0_, st1_]
  apply wpT_next 11 (some 18) (by kernel_rfl)
  · rfl
  · rfl
  · kernel_rfl
  · kernel_rfl
  · kernel_rfl
  · exact fun _ _ _ _ h => h
  apply Exists.intro
  apply And.intro
  · apply yr_run; rfl; intro w' hw'; go_simp; (try with_reducible rfl)
  simp only [Act.put, stA_, st0_, st1_]
  apply wpT_next 12 (some 19) (by kernel_rfl)
  · rfl
  · rfl
  · kernel_rfl
  · kernel_rfl
  · kernel_rfl
  · exact fun _ _ _ _ h => h
  apply Exists.intro
  apply And.intro
  · apply yr_run; rfl; intro w' hw'; go_simp; (try with_reducible rfl)
  simp only [Act.put, stA_, st0_, st1_]
  apply wpT_next 13 (some 20) (by kernel_rfl)
  · rfl
  · rfl
  · kernel_rfl
  · kernel_rfl
  · kernel_rfl
  · exact fun _ _ _ _ h => h
  apply Exists.intro
  apply And.intro
  · apply yr_run; rfl; intro w' hw'; go_simp; (try with_reducible rfl)
  simp only [Act.put, stA_, st0_, st1_]
  apply wpT_next 14 (some 21) (by kernel_rfl)
  · rfl
  · rfl
  · kernel_rfl
  · kernel_rfl
  · kernel_rfl
  · exact fun _ _ _ _ h => h
  apply Exists.intro
  apply And.intro
  · apply yr_run; rfl; intro w' hw'; go_simp; (try with_reducible rfl)
  simp only [Act.put, stA_, st0_, st1_]
  apply wpT_next 15 (some 22) (by kernel_rfl)
  · rfl
  · rfl
  · kernel_rfl
  · kernel_rfl
  · kernel_rfl
  · exact fun _ _ _ _ h => h
  apply Exists.intro
  apply And.intro
  · apply yr_run; rfl; intro w' hw'; go_simp; (try with_reducible rfl)
  simp only [Act.put, stA_, st0_, st1_]
  apply wpT_next 16 (some 23) (by kernel_rfl)
  · rfl
  · rfl
  · kernel_rfl
  · kernel_rfl
  · kernel_rfl
  · exact fun _ _ _ _ h => h
  apply Exists.intro
  apply And.intro
  · apply yr_run; rfl; intro w' hw'; go_simp; (try with_reducible rfl)
  simp only [Act.put, stA_, st0_, st1_]
  apply wpT_next 17 (some 24) (by kernel_rfl)
  · rfl
  · rfl
  · kernel_rfl
  · kernel_rfl
  · kernel_rfl
  · exact fun _ _ _ _ h => h
  apply Exists.intro
  apply And.intro
  · apply yr_run; rfl; intro w' hw'; go_simp; (try with_reducible rfl)
  simp only [Act.put, stA_, st0_, st1_]
  apply wpT_next 18 (some 25) (by kernel_rfl)
  · rfl
  · rfl
  · kernel_rfl
  · kernel_rfl
  · kernel_rfl
  · exact fun _ _ _ _ h => h
  apply Exists.intro
  apply And.intro
  · apply yr_run; rfl; intro w' hw'; go_simp; (try with_reducible rfl)
  simp only [Act.put, stA_, st0_, st1_]
  apply wpT_next 19 (some 26) (by kernel_rfl)
  · rfl
  · rfl
  · kernel_rfl
  · kernel_rfl
  · kernel_rfl
  · exact fun _ _ _ _ h => h
  apply Exists.intro
  apply And.intro
  · apply yr_run; rfl; intro w' hw'; go_simp; (try with_reducible rfl)
  simp only [Act.put, stA_, st0_, st1_]
  apply wpT_next 20 (some 27) (by kernel_rfl)
  · rfl
  · rfl
  · kernel_rfl
  · kernel_rfl
  · kernel_rfl
  · exact fun _ _ _ _ h => h
  apply Exists.intro
  apply And.intro
  · apply yr_run; rfl; intro w' hw'; go_simp; (try with_reducible rfl)
  simp only [Act.put, stA_, st0_, st1_]
  apply wpT_last 21
  · rfl
  · rfl
  · kernel_rfl
  · rfl
  · decide
  intro w' hw'
  refine ⟨w'.setRow b9 #[.int .i64 (b0 : Int), .int .i64 (x5 : Int)], store_row_run 47 (.tmp 2) (.tmp 27) rfl b9 rfl [.int .i64 (b0 : Int), .int .i64 (x5 : Int)] rfl 47 [.int .i64 0, .int .i64 0] (HX.out.bl (Ext.trans (below_drewN w8.heap.size w8 1) hw')) (by kernel_rfl) rfl (by simp [Value.oneCell']), ?_⟩
  have HX8 : RowKit.Hid (Whole (w'.setRow b9 #[.int .i64 (b0 : Int), .int .i64 (x5 : Int)]) b9 47 [.int .i64 (b0 : Int), .int .i64 (x5 : Int)]) := Lib.hid (Whole.row (HX.out.bl (Ext.trans (below_drewN w8.heap.size w8 1) hw')) [_, _])
  have HB8 : RowKit.Hid (Below w.heap.size w (w'.setRow b9 #[.int .i64 (b0 : Int), .int .i64 (x5 : Int)])) := Lib.hid (below_row (Ext.trans HE.out (Ext.trans (below_drewN w8.heap.size w8 1) hw')) (Nat.le_of_eq Gb9.out) _)
  clear hw' 
  try simp only [Act.put, stA_, st0_, st1_]
  refine wpT_done (by kernel_rfl) ?_ _
  intro w10 hw10
  have HX9 := Lib.hid (HX8.out.bl hw10)
  have HB9 := Lib.hid (bel_bl HB8.out hw10)
  clear hw10
  go_wp2
  exact ret_whole rfl b9 rfl HX9.out Try.underlying47 rfl (by kernel_rfl) rfl ⟨rfl, HB9.out⟩
end Go.Proofs.Ytinfbaflkjghhaa
/- ident.Take of four bytes. -/
namespace Go.Proofs.Ytinfbaflkjghhaa
open Go.RowKit
theorem kept_setRow {S : Nat → Prop} (w : World) (g : Nat) (hS : S g) (cs : Array Value) : Kept S w (w.setRow g cs) := ⟨rfl, rfl, rfl, by simp [World.setRow], fun i _ hn => setRow_other w g i cs (fun e => hn (by rw [e]; exact hS))⟩
set_option maxRecDepth 100000 in
set_option maxHeartbeats 4000000 in
theorem idtake_any (A : Option Addr) (c : Nat) (b0 b1 b2 b3 : Nat) (R : List Nat) (w : World) (h : RdS w w.heap.size 1 A (b0 :: b1 :: b2 :: b3 :: R).length c (rowsV f8 (b0 :: b1 :: b2 :: b3 :: R))) (h0 : b0 < 256) (h1 : b1 < 256) (h2 : b2 < 256) (h3 : b3 < 256) (hn : (b0 :: b1 :: b2 :: b3 :: R).length ≤ 100000) :
    Calls Try.prog 104 #[.slice A (b0 :: b1 :: b2 :: b3 :: R).length c] w fun e w' => ∃ A' n' c' ok, e = .returned (.tuple #[.agg #[.int .i64 (tk4 (b0 :: b1 :: b2 :: b3 :: R)).1, .int .i64 (tk4 (b0 :: b1 :: b2 :: b3 :: R)).2], .slice A' n' c', .bool ok]) ∧ Below w.heap.size w w' := by
  have HF := Lib.hid (fun W h => first_any A (b0 :: b1 :: b2 :: b3 :: R).length c b0 b1 b2 b3 R W h h0 h1 h2 h3)
  have hlow := h.low_ (k := 4) (by simp)
  have hdl : ((b0 :: b1 :: b2 :: b3 :: R).drop 4).length = (b0 :: b1 :: b2 :: b3 :: R).length - 4 := List.length_drop
  rw [show (rowsV f8 (b0 :: b1 :: b2 :: b3 :: R)).drop (4 * 1) = rowsV f8 R from rfl, show (b0 :: b1 :: b2 :: b3 :: R).length - 4 = R.length from by simp] at hlow
  obtain ⟨A1, hA1⟩ : ∃ A1, (if c = 4 then A else A.map (·.add (4 * 1))) = A1 := ⟨_, rfl⟩
  rw [hA1] at hlow
  have hl : (b0 :: b1 :: b2 :: b3 :: R).length = R.length + 4 := by simp
  have HC1 := Lib.hid (fun W (hW : Ext w W) => clone8 A1 (c - 4) R W (hlow.up hW hW.size) (by omega))
  have HC2 := Lib.hid (fun W (hW : Ext w W) => clone8 A c (b0 :: b1 :: b2 :: b3 :: R) W (h.up hW hW.size) hn)
  have ht : tk4 (b0 :: b1 :: b2 :: b3 :: R) = if mayI (b0 : Int) (65536 * (b1 : Int) + 256 * (b2 : Int) + (b3 : Int)) = true then ((b0 : Int), 65536 * (b1 : Int) + 256 * (b2 : Int) + (b3 : Int)) else (0, 0) := rfl
  obtain ⟨s, gs⟩ : ∃ z : Int, (b0 : Int) = z := ⟨_, rfl⟩
  obtain ⟨k, gk⟩ : ∃ z : Int, 65536 * (b1 : Int) + 256 * (b2 : Int) + (b3 : Int) = z := ⟨_, rfl⟩
  rw [gs, gk] at HF ht
  have HR := Lib.hid h
  obtain ⟨M, gM⟩ : ∃ z, b0 :: b1 :: b2 :: b3 :: R = z := ⟨_, rfl⟩
  rw [gM] at HF HC2 ht HR hl ⊢
  obtain ⟨m, gm⟩ : ∃ z, M.length = z := ⟨_, rfl⟩
  rw [gm] at HF HC2 HR hl ⊢
  have Gm := Lib.hid gm
  obtain ⟨r, gr⟩ : ∃ z, R.length = z := ⟨_, rfl⟩
  rw [gr] at HC1 hl
  have Gr := Lib.hid gr
  have HAr := Lib.hid hA1
  have Hm4 : RowKit.Hid (4 ≤ m ∧ m - 4 = r) := Lib.hid (by omega)
  obtain ⟨my, gmy⟩ : ∃ z, mayI s k = z := ⟨_, rfl⟩
  have HMy : RowKit.Hid (∀ W, Calls Try.prog 78 #[.agg #[.int .i64 s, .int .i64 k]] W fun e w' => e = .returned (.bool my) ∧ Below W.heap.size W w') := Lib.hid (fun W => gmy ▸ may_any s k W)
  rw [gmy] at ht
  obtain ⟨⟨t1, t2⟩, gt⟩ : ∃ z, tk4 M = z := ⟨_, rfl⟩
  rw [gt] at ht ⊢
  have Ht := Lib.hid ht
  have HX0 : RowKit.Hid (Whole (w.alloc (.cells #[.int .i64 0, .int .i64 0] 47)) w.heap.size 47 [.int .i64 0, .int .i64 0]) := Lib.hid (Whole.new_ _ _ [_, _])
  have HE0 : RowKit.Hid (Ext w (w.alloc (.cells #[.int .i64 0, .int .i64 0] 47))) := Lib.hid (below1 w _)
  have HR0 := Lib.hid (HR.out.al (.cells #[.int .i64 0, .int .i64 0] 47))
  clear h hlow hdl gs gk gM gm gr hA1 hl hn gmy gt ht
  go_enter Try.func104, Try.ntmps104
  go_upto_region 1 with fail
  obtain ⟨w0, gw0⟩ : ∃ z, w.alloc (.cells #[.int .i64 0, .int .i64 0] 47) = z := ⟨_, rfl⟩
  obtain ⟨b, gb⟩ : ∃ z, w.heap.size = z := ⟨_, rfl⟩
  rw [gw0] at HX0 HE0 HR0 ⊢
  rw [gb] at HX0 ⊢
  have Gb := Lib.hid gb
  clear gw0 gb
  go_upto_region 2 with (first
    | (go_at_call 108
       refine (HF.out _ HR0.out).mono ?_
       rintro e w1 ⟨rfl, hb1⟩
       have HX1 := Lib.hid ((HX0.out.bl hb1).al (.cells #[.int .i64 s, .int .i64 k] 47))
       have HE1 : RowKit.Hid (Ext w (w1.alloc (.cells #[.int .i64 s, .int .i64 k] 47))) := Lib.hid (Ext.trans (Ext.trans HE0.out hb1) (below1 w1 _))
       have HY1 : RowKit.Hid (Whole (w1.alloc (.cells #[.int .i64 s, .int .i64 k] 47)) w1.heap.size 47 [.int .i64 s, .int .i64 k]) := Lib.hid (Whole.new_ _ _ [_, _])
       have HN1 : RowKit.Hid (w1.heap.size ≠ b) := Lib.hid (by have := (HX0.out.bl hb1).lt; omega)
       clear hb1))
  obtain ⟨w2, gw2⟩ : ∃ z, w1.alloc (.cells #[.int .i64 s, .int .i64 k] 47) = z := ⟨_, rfl⟩
  obtain ⟨b5, gb5⟩ : ∃ z, w1.heap.size = z := ⟨_, rfl⟩
  rw [gw2] at HX1 HE1 HY1 ⊢
  rw [gb5] at HY1 HN1 ⊢
  clear gw2 gb5 HX0 HE0 HR0 HF
  have d0 := HY1.out.cell (i := 0) rfl
  have d1 := HY1.out.cell (i := 1) rfl
  cases my with
  | false =>
    have ht := Ht.out
    rw [if_neg (by decide)] at ht
    injection ht with e1 e2
    subst e1 e2
    go_upto_region 3 with (first
      | (go_at_call 78
         refine (HMy.out _).mono ?_
         rintro e w3 ⟨rfl, hb3⟩
         have HX3 := Lib.hid (HX1.out.bl hb3)
         have HE3 := Lib.hid (Ext.trans HE1.out hb3)
         clear hb3 d0 d1))
    go_wp2_with (first
      | (go_at_call 36
         refine (HC2.out _ HE3.out).mono ?_
         rintro e w4 ⟨A4, c4, rfl, -, -, -, hb4⟩
         rw [Gm.out]
         have HX4 := Lib.hid (HX3.out.bl hb4)
         have HE4 : RowKit.Hid (Ext w w4) := Lib.hid (Ext.trans HE3.out hb4)
         have q0 := HX4.out.cell (i := 0) rfl
         have q1 := HX4.out.cell (i := 1) rfl
         have f0 := HX4.out.free 0
         have f1 := HX4.out.free 1
         clear hb4))
    have HXz := (HX4.out.set_ 0 (.int .i64 0)).set_ 1 (.int .i64 0)
    have HBz := ((show Below w.heap.size w w4 from HE4.out).setCell (p := ⟨b, 0, none⟩) (by show w.heap.size ≤ b; exact Nat.le_of_eq Gb.out) (.int .i64 0)).setCell (p := ⟨b, 1, none⟩) (by show w.heap.size ≤ b; exact Nat.le_of_eq Gb.out) (.int .i64 0)
    exact ret_whole3 rfl b rfl rfl rfl HXz Try.underlying47 rfl (by kernel_rfl) rfl ⟨A4, m, c4, false, rfl, HBz⟩
  | true =>
    have ht := Ht.out
    rw [if_pos rfl] at ht
    injection ht with e1 e2
    subst e1 e2
    go_upto_region 4 with (first
      | (go_at_call 78
         refine (HMy.out _).mono ?_
         rintro e w3 ⟨rfl, hb3⟩
         have HX3 := Lib.hid (HX1.out.bl hb3)
         have HE3 : RowKit.Hid (Ext w w3) := Lib.hid (Ext.trans HE1.out hb3)
         have HY3 := Lib.hid (HY1.out.bl hb3)
         clear hb3 d0 d1))
    have HDr : RowKit.Hid (Ext w3 w3.drew) := Lib.hid (below_drewN w3.heap.size w3 1)
    have ld0 : ∀ w', Kept (fun i => i = b) w3.drew w' → w'.cell? ⟨b5, 0, none⟩ = some (.int .i64 t1) := fun w' h => h.cell (HY3.out.dr.cell (i := 0) rfl) HN1.out
    have ld1 : ∀ w', Kept (fun i => i = b) w3.drew w' → w'.cell? ⟨b5, 1, none⟩ = some (.int .i64 t2) := fun w' h => h.cell (HY3.out.dr.cell (i := 1) rfl) HN1.out
    refine wp_region_reg (fun i => i = b) (by kernel_rfl) ?_
    refine opR_ 0 14 (v := ?_) ?_ ?_; rotate_left
    · intro w' hw'; go_simp; (try with_reducible rfl)
    simp only [st0_, st1_]
    refine opR_ 1 15 (v := ?_) ?_ ?_; rotate_left
    · intro w' hw'; go_simp; (try with_reducible rfl)
    simp only [st0_, st1_]
    refine opX_ 2 16 ?_
    apply Exists.intro
    apply And.intro
    · apply yr_run; rfl; intro w' hw'; exact exec_slice_low_as 23 5 (.tmp 15) (.const (.int .i64 4)) rfl Try.underlying23 (s := 1) (by kernel_rfl) rfl rfl Hm4.out.1 HAr.out Hm4.out.2 rfl
    simp only [st0_, st1_]
    apply wpR_call 3 (some 17)
    · rfl
    · rfl
    · kernel_rfl
    · rfl
    · intro w'; go_simp; first | done | exact ⟨rfl, rfl⟩ | with_reducible rfl
    intro w' hw'
    have hE := Ext.trans HDr.out hw'
    refine (HC1.out w' (Ext.trans HE3.out hE)).mono ?_
    rintro e w4 ⟨A4, c4, rfl, -, -, -, hb4⟩
    rw [Gr.out]
    refine ⟨_, rfl, Kept.of_below hb4, ?_⟩
    have HX4 := Lib.hid (HX3.out.bl (Ext.trans hE hb4))
    have HE4 : RowKit.Hid (Ext w w4) := Lib.hid (Ext.trans HE3.out (Ext.trans hE hb4))
    clear hE hb4 hw' ld0 ld1
    simp only [Act.put, stA_, st0_, st1_]
    apply wpR_store 4
    · rfl
    · rfl
    · kernel_rfl
    · rfl
    intro w' hw'
    refine ⟨w'.setRow b #[.int .i64 t1, .int .i64 t2], store_row_run 47 (.tmp 2) (.tmp 14) rfl b rfl [.int .i64 t1, .int .i64 t2] rfl 47 [.int .i64 0, .int .i64 0] (HX4.out.bl hw') (by kernel_rfl) rfl (by simp [Value.oneCell']), kept_setRow (S := fun i => i = b) w' b rfl _, ?_⟩
    have HX5 : RowKit.Hid (Whole (w'.setRow b #[.int .i64 t1, .int .i64 t2]) b 47 [.int .i64 t1, .int .i64 t2]) := Lib.hid (Whole.row (HX4.out.bl hw') [_, _])
    have HB5 : RowKit.Hid (Below w.heap.size w (w'.setRow b #[.int .i64 t1, .int .i64 t2])) := Lib.hid (below_row (Ext.trans HE4.out hw') (Nat.le_of_eq Gb.out) _)
    clear hw' 
    try simp only [Act.put, stA_, st0_, st1_]
    refine opR_ 5 3 (v := ?_) ?_ ?_; rotate_left
    · intro w' hw'; go_simp; (try with_reducible rfl)
    simp only [st0_, st1_]
    refine opR_ 6 4 (v := ?_) ?_ ?_; rotate_left
    · intro w' hw'; go_simp; (try with_reducible rfl)
    simp only [st0_, st1_]
    refine wpR_done (by kernel_rfl) ?_ _
    intro w10 hw10
    have HX9 := Lib.hid (HX5.out.bl hw10)
    have HB9 := Lib.hid (bel_bl HB5.out hw10)
    clear hw10
    go_wp2
    exact ret_whole3 rfl b rfl rfl rfl HX9.out Try.underlying47 rfl (by kernel_rfl) rfl ⟨A4, r, c4, true, rfl, HB9.out⟩
end Go.Proofs.Ytinfbaflkjghhaa
/- The document's Num. -/
namespace Go.Proofs.Ytinfbaflkjghhaa
open Go.RowKit
end Go.Proofs.Ytinfbaflkjghhaa
/- The document's Text, TakeNum, TakeText. -/
namespace Go.Proofs.Ytinfbaflkjghhaa
open Go.RowKit
end Go.Proofs.Ytinfbaflkjghhaa
/- The document's TakeText. -/
namespace Go.Proofs.Ytinfbaflkjghhaa
open Go.RowKit
end Go.Proofs.Ytinfbaflkjghhaa
/- The document's TakeNum and TakeText: what is left lies where the bytes lay. -/
namespace Go.Proofs.Ytinfbaflkjghhaa
open Go.RowKit
/-- Where A' lies, A lies. -/
def Lies (A A' : Option Addr) : Prop := ∀ a', A' = some a' → ∃ a, A = some a ∧ a.block = a'.block
theorem lies_low {A A1 : Option Addr} {c j s : Nat} (h : (if c = j then A else A.map (·.add (j * s))) = A1) : Lies A A1 := fun a' e => by
  subst e
  split at h
  · exact ⟨a', h, rfl⟩
  · cases A with
    | none => cases h
    | some a =>
      refine ⟨a, rfl, ?_⟩
      have := Option.some.inj h
      rw [← this]
      show a.block = (a.add (j * s)).block
      unfold Addr.add
      first | rfl | (split <;> rfl)
theorem Lies.trans {A A' A'' : Option Addr} (h : Lies A A') (k : Lies A' A'') : Lies A A'' := fun a e => by
  obtain ⟨b, hb, e1⟩ := k a e
  obtain ⟨c, hc, e2⟩ := h b hb
  exact ⟨c, hc, e2.trans e1⟩
end Go.Proofs.Ytinfbaflkjghhaa
/- Out of XPk30 -/
namespace Go.Proofs.Ytinfbaflkjghhaa
open Go.RowKit
end Go.Proofs.Ytinfbaflkjghhaa
/- The contracts of diagram.MayLabel and of the document's own. -/
namespace Go.Proofs.Ytinfbaflkjghhaa
open Go.RowKit
def okB (c : UInt8) : Bool := decide (32 ≤ c.toNat ∧ c.toNat ≤ 126)
/-- A label that may be. -/
def mayL (s : ByteArray) : Bool := decide (s.size ≤ 16) && s.data.toList.all okB
theorem takeB_snoc (s : ByteArray) (k : Nat) (h : k < s.size) : s.data.toList.take (k + 1) = s.data.toList.take k ++ [s[k]] := by
  rw [List.take_succ_eq_append_getElem (by simpa using h)]; rfl
theorem allB_step (s : ByteArray) (k : Nat) (h : k < s.size) (ha : (s.data.toList.take k).all okB = true) (hk : okB s[k] = true) : (s.data.toList.take (k + 1)).all okB = true := by
  rw [takeB_snoc s k h, List.all_append, ha]
  simp [hk]
theorem allB_not (s : ByteArray) (k : Nat) (h : k < s.size) (hk : okB s[k] = false) : s.data.toList.all okB = false := by
  rw [List.all_eq_false]
  refine ⟨s[k], ?_, by simp [hk]⟩
  show s.data[k] ∈ s.data.toList
  simp
theorem allB_all (s : ByteArray) (k : Nat) (h : s.size ≤ k) (ha : (s.data.toList.take k).all okB = true) : s.data.toList.all okB = true := by
  rwa [List.take_of_length_le (by simpa using h)] at ha
/-- The rune at a place: the byte itself where it is below 128; else one above 126. -/
theorem decode_is (s : ByteArray) (pos : Nat) (h : pos < s.size) : ∃ c wd, Utf8.decode s pos = (c, wd) ∧ 1 ≤ wd ∧ ((s[pos].toNat < 128 ∧ c = s[pos].toNat ∧ wd = 1) ∨ (128 ≤ s[pos].toNat ∧ 128 ≤ c)) := by
  by_cases ha : s[pos].toNat < 128
  · exact ⟨_, _, decode_ascii s pos h ha, Nat.le_refl _, .inl ⟨ha, rfl, rfl⟩⟩
  · have hh := decode_high s pos h (by omega)
    exact ⟨_, _, rfl, hh.2, .inr ⟨by omega, hh.1⟩⟩
theorem run_next_is (P : Program) (w : World) (s : ByteArray) (pos : Nat) (h : pos < s.size) {c wd : Nat} (hd : Utf8.decode s pos = (c, wd)) (ty : TypeId) :
    (Instr.next (.pointer (some ⟨w.heap.size, 0, none⟩)) true ty).run P (w.iter s pos) = .ok (.tuple #[.bool true, .int .i64 pos, .int .i32 c]) (w.iter s (pos + wd)) := by
  simp only [Instr.next, getObj, setObj, Sem.run_bind, Sem.run, World.iter_heap, Result.andThen, h, if_true, hd, World.iter_set]
  simp [goInt, Sem.run, World.iter_heap, World.iter_set]
set_option maxRecDepth 100000 in
theorem maylabel_any (s : ByteArray) : Pure 81 #[.string s] (.bool (mayL s)) := fun w => by
  by_cases h16 : s.size ≤ 16
  case neg =>
    have hr : mayL s = false := by simp [mayL, h16]
    have hq : decide ((16 : Int) < (s.size : Int)) = true := decide_eq_true (by omega)
    rw [hr]
    clear hr h16
    go_enter Try.func81, Try.ntmps81
    go_wp2
    go_ret
    exact ⟨rfl, Below.refl _ _⟩
  have hq : decide ((16 : Int) < (s.size : Int)) = false := decide_eq_false (by omega)
  have HS := Lib.hid h16
  clear h16
  go_enter Try.func81, Try.ntmps81
  go_wp2
  clear hq
  go_loopw [] (fun w' => ∃ pos : Nat, w' = w.iter s pos ∧ (s.data.toList.take pos).all okB = true) (fun w' => s.size - w'.iterPos w.heap.size)
  case atStart => exact ⟨0, rfl, by simp⟩
  case round =>
    obtain ⟨pos, rfl, ha⟩ := hrel
    have HA := Lib.hid ha
    clear ha
    by_cases hp : pos < s.size
    · obtain ⟨c, wd, hd, hwd, hc⟩ := decode_is s pos hp
      have hnx := fun ty => run_next_is Try.prog w s pos hp hd ty
      have HW := Lib.hid hwd
      clear hd hwd
      by_cases c1 : 32 ≤ c
      · by_cases c2 : c ≤ 126
        · have q1 : decide ((c : Int) < 32) = false := decide_eq_false (by omega)
          have q2 : decide ((126 : Int) < (c : Int)) = false := decide_eq_false (by omega)
          have HC1 := Lib.hid c1
          have HC2 := Lib.hid c2
          clear c1 c2
          have HC := Lib.hid hc
          have HP := Lib.hid hp
          clear hc
          go_wp2
          go_roundw
          case rel =>
            rcases HC.out with ⟨h1, rfl, rfl⟩ | ⟨h1, h2⟩
            · exact ⟨pos + 1, rfl, allB_step s pos hp HA.out (by have a := HC1.out; have b := HC2.out; simpa [okB] using ⟨a, b⟩)⟩
            · have := HC2.out
              omega
          case measure =>
            have a := hp
            have b := HW.out
            simp
            omega
        · have q1 : decide ((c : Int) < 32) = false := decide_eq_false (by omega)
          have q2 : decide ((126 : Int) < (c : Int)) = true := decide_eq_true (by omega)
          have hr : mayL s = false := by
            have : okB (s[pos]'hp) = false := by
              rcases hc with ⟨h1, h2, h3⟩ | ⟨h1, h2⟩
              · simp [okB]; omega
              · simp [okB]; omega
            simp [mayL, allB_not s pos hp this]
          have HR := Lib.hid hr
          clear c1 c2 hr
          go_wp2
          go_ret
          exact ⟨ret_bool HR.out.symm, below1 _ _⟩
      · have q1 : decide ((c : Int) < 32) = true := decide_eq_true (by omega)
        have hr : mayL s = false := by
          have : okB (s[pos]'hp) = false := by
            rcases hc with ⟨h1, h2, h3⟩ | ⟨h1, h2⟩
            · simp [okB]; omega
            · omega
          simp [mayL, allB_not s pos hp this]
        have HR := Lib.hid hr
        clear c1 hr
        go_wp2
        go_ret
        exact ⟨ret_bool HR.out.symm, below1 _ _⟩
    · have hr : mayL s = true := by simp [mayL, HS.out, allB_all s pos (by omega) HA.out]
      have hnx : ∀ ty, (Instr.next (.pointer (some ⟨w.heap.size, 0, none⟩)) true ty).run Try.prog (w.iter s pos) = _ := fun ty => run_next_end w s pos ty hp
      have HR := Lib.hid hr
      clear hp hr
      go_wp2
      go_ret
      exact ⟨ret_bool HR.out.symm, below1 _ _⟩
end Go.Proofs.Ytinfbaflkjghhaa
/- The contract of op.May. -/
namespace Go.Proofs.Ytinfbaflkjghhaa
open Go.RowKit
/-- What is wrong with an operation. -/
def mayO (o : OpT) : Int := if mayI o.s o.n = true ∧ fitsO o = true ∧ o = onlyO o then (if mayL o.t = true then 0 else 4) else 1
theorem fits_op (o : OpT) : Pure 79 #[.agg (opCells o).toArray] (.bool (fitsO o)) := fun w => fits_at o.k o.s o.n o.s1 o.n1 o.s2 o.n2 o.a0 o.a1 o.a2 o.a3 o.a4 o.b0 o.b1 o.b2 o.b3 o.b4 o.e o.t o.m w
theorem only_op (o : OpT) : Pure 80 #[.agg (opCells o).toArray] (.agg (opCells (onlyO o)).toArray) := fun w => only_at o.k o.s o.n o.s1 o.n1 o.s2 o.n2 o.a0 o.a1 o.a2 o.a3 o.a4 o.b0 o.b1 o.b2 o.b3 o.b4 o.e o.t o.m w
set_option maxRecDepth 100000 in
set_option maxHeartbeats 2000000 in
theorem may_a (o : OpT) (h1 : mayI o.s o.n = false) (w : World) : Calls Try.prog 62 #[.agg (opCells o).toArray] w fun e w' => e = .returned (.int .i64 1) ∧ Below w.heap.size w w' := by
  have hm := may_any o.s o.n
  rw [h1] at hm
  have HM := Lib.hid hm
  clear hm h1
  go_enter Try.func62, Try.ntmps62
  go_upto_region 1 with fail
  obtain ⟨W1, gW1⟩ : ∃ x, w.alloc (.cells (opCells o).toArray 53) = x := ⟨_, rfl⟩
  have HO : RowKit.Hid (Whole W1 w.heap.size 53 (opCells o)) := Lib.hid (by rw [← gW1]; exact Whole.new_ w _ _)
  have HB : RowKit.Hid (Below w.heap.size w W1) := Lib.hid (by rw [← gW1]; exact below1 _ _)
  rw [gW1]
  clear gW1
  obtain ⟨g0, gg0⟩ : ∃ x, w.heap.size = x := ⟨_, rfl⟩
  rw [gg0] at HO ⊢
  clear gg0
  have ld1 : ∀ w', Kept Nil_ W1.drew w' → w'.cell? ⟨g0, 1, none⟩ = some (.int .i64 o.s) := fun w' h => h.nil_cell (HO.out.drew.cell (i := 1) rfl)
  have ld2 : ∀ w', Kept Nil_ W1.drew w' → w'.cell? ⟨g0, 2, none⟩ = some (.int .i64 o.n) := fun w' h => h.nil_cell (HO.out.drew.cell (i := 2) rfl)
  refine wp_region_reg (Nil_) (by kernel_rfl) ?_
  refine opR_ 0 3 (v := ?_) ?_ ?_; rotate_left
  · intro w' hw'; go_simp; (try with_reducible rfl)
  simp only [st0_, st1_]
  refine opR_ 1 4 (v := ?_) ?_ ?_; rotate_left
  · intro w' hw'; go_simp; (try with_reducible rfl)
  simp only [st0_, st1_]
  refine opX_ 2 5 ?_
  apply Exists.intro
  apply And.intro
  · apply yr_call; rfl; rotate_left; intro w' hw'; exact HM.out w'; intro w'; go_simp
  simp only [st0_, st1_]
  refine opR_ 3 6 (v := ?_) ?_ ?_; rotate_left
  · intro w' hw'; go_simp; (try with_reducible rfl)
  simp only [st0_, st1_]
  refine opR_ 4 7 (v := ?_) ?_ ?_; rotate_left
  · intro w' hw'; go_simp; (try with_reducible rfl)
  simp only [st0_, st1_]
  refine opX_ 5 8 ?_
  apply Exists.intro
  apply And.intro
  · exact yr_skip (by rfl)
  simp only [st0_, st1_]
  refine opX_ 6 9 ?_
  apply Exists.intro
  apply And.intro
  · exact yr_skip (by rfl)
  simp only [st0_, st1_]
  refine opX_ 7 10 ?_
  apply Exists.intro
  apply And.intro
  · exact yr_skip (by rfl)
  simp only [st0_, st1_]
  refine opR_ 8 11 (v := ?_) ?_ ?_; rotate_left
  · intro w' hw'; go_simp; (try with_reducible rfl)
  simp only [st0_, st1_]
  refine opR_ 9 12 (v := ?_) ?_ ?_; rotate_left
  · intro w' hw'; go_simp; (try with_reducible rfl)
  simp only [st0_, st1_]
  refine opX_ 10 13 ?_
  apply Exists.intro
  apply And.intro
  · exact yr_skip (by rfl)
  simp only [st0_, st1_]
  refine opX_ 11 14 ?_
  apply Exists.intro
  apply And.intro
  · exact yr_skip (by rfl)
  simp only [st0_, st1_]
  refine opX_ 12 15 ?_
  apply Exists.intro
  apply And.intro
  · exact yr_skip (by rfl)
  simp only [st0_, st1_]
  refine opX_ 13 16 ?_
  apply Exists.intro
  apply And.intro
  · exact yr_skip (by rfl)
  simp only [st0_, st1_]
  refine opR_ 14 17 (v := ?_) ?_ ?_; rotate_left
  · intro w' hw'; go_simp; (try with_reducible rfl)
  simp only [st0_, st1_]
  refine wpR_done (by kernel_rfl) ?_ _
  intro W2 hw2
  have HB2 : RowKit.Hid (Below w.heap.size w W2) := Lib.hid (HB.out.drew.trans (hw2.mono HB.out.drew.size))
  clear hw2 ld1 ld2
  go_wp2
  go_ret
  exact ⟨rfl, HB2.out⟩
set_option maxRecDepth 100000 in
set_option maxHeartbeats 2000000 in
theorem may_b (o : OpT) (h1 : mayI o.s o.n = true) (h2 : fitsO o = false) (w : World) : Calls Try.prog 62 #[.agg (opCells o).toArray] w fun e w' => e = .returned (.int .i64 1) ∧ Below w.heap.size w w' := by
  have hm := may_any o.s o.n
  rw [h1] at hm
  have HM := Lib.hid hm
  have hf := fits_op o
  rw [h2] at hf
  have HF := Lib.hid hf
  clear hm h1 hf h2
  go_enter Try.func62, Try.ntmps62
  go_upto_region 1 with fail
  obtain ⟨W1, gW1⟩ : ∃ x, w.alloc (.cells (opCells o).toArray 53) = x := ⟨_, rfl⟩
  have HO : RowKit.Hid (Whole W1 w.heap.size 53 (opCells o)) := Lib.hid (by rw [← gW1]; exact Whole.new_ w _ _)
  have HB : RowKit.Hid (Below w.heap.size w W1) := Lib.hid (by rw [← gW1]; exact below1 _ _)
  rw [gW1]
  clear gW1
  obtain ⟨g0, gg0⟩ : ∃ x, w.heap.size = x := ⟨_, rfl⟩
  rw [gg0] at HO ⊢
  clear gg0
  have ld1 : ∀ w', Kept Nil_ W1.drew w' → w'.cell? ⟨g0, 1, none⟩ = some (.int .i64 o.s) := fun w' h => h.nil_cell (HO.out.drew.cell (i := 1) rfl)
  have ld2 : ∀ w', Kept Nil_ W1.drew w' → w'.cell? ⟨g0, 2, none⟩ = some (.int .i64 o.n) := fun w' h => h.nil_cell (HO.out.drew.cell (i := 2) rfl)
  refine wp_region_reg (Nil_) (by kernel_rfl) ?_
  refine opR_ 0 3 (v := ?_) ?_ ?_; rotate_left
  · intro w' hw'; go_simp; (try with_reducible rfl)
  simp only [st0_, st1_]
  refine opR_ 1 4 (v := ?_) ?_ ?_; rotate_left
  · intro w' hw'; go_simp; (try with_reducible rfl)
  simp only [st0_, st1_]
  refine opX_ 2 5 ?_
  apply Exists.intro
  apply And.intro
  · apply yr_call; rfl; rotate_left; intro w' hw'; exact HM.out w'; intro w'; go_simp
  simp only [st0_, st1_]
  refine opR_ 3 6 (v := ?_) ?_ ?_; rotate_left
  · intro w' hw'; go_simp; (try with_reducible rfl)
  simp only [st0_, st1_]
  refine opR_ 4 7 (v := ?_) ?_ ?_; rotate_left
  · intro w' hw'; go_simp; (try with_reducible rfl)
  simp only [st0_, st1_]
  refine opX_ 5 8 ?_
  apply Exists.intro
  apply And.intro
  · exact yr_load (by rfl) 53 (.tmp 1) rfl g0 rfl 53 (opCells o) _ (fun w' h => h.whole HO.out.drew (fun h => h)) Try.underlying53 rfl (by kernel_rfl)
  simp only [st0_, st1_]
  refine opX_ 6 9 ?_
  apply Exists.intro
  apply And.intro
  · apply yr_call; rfl; rotate_left; intro w' hw'; exact HF.out w'; intro w'; go_simp
  simp only [st0_, st1_]
  refine opR_ 7 10 (v := ?_) ?_ ?_; rotate_left
  · intro w' hw'; go_simp; (try with_reducible rfl)
  simp only [st0_, st1_]
  refine opR_ 8 11 (v := ?_) ?_ ?_; rotate_left
  · intro w' hw'; go_simp; (try with_reducible rfl)
  simp only [st0_, st1_]
  refine opR_ 9 12 (v := ?_) ?_ ?_; rotate_left
  · intro w' hw'; go_simp; (try with_reducible rfl)
  simp only [st0_, st1_]
  refine opX_ 10 13 ?_
  apply Exists.intro
  apply And.intro
  · exact yr_skip (by rfl)
  simp only [st0_, st1_]
  refine opX_ 11 14 ?_
  apply Exists.intro
  apply And.intro
  · exact yr_skip (by rfl)
  simp only [st0_, st1_]
  refine opX_ 12 15 ?_
  apply Exists.intro
  apply And.intro
  · exact yr_skip (by rfl)
  simp only [st0_, st1_]
  refine opX_ 13 16 ?_
  apply Exists.intro
  apply And.intro
  · exact yr_skip (by rfl)
  simp only [st0_, st1_]
  refine opR_ 14 17 (v := ?_) ?_ ?_; rotate_left
  · intro w' hw'; go_simp; (try with_reducible rfl)
  simp only [st0_, st1_]
  refine wpR_done (by kernel_rfl) ?_ _
  intro W2 hw2
  have HB2 : RowKit.Hid (Below w.heap.size w W2) := Lib.hid (HB.out.drew.trans (hw2.mono HB.out.drew.size))
  clear hw2 ld1 ld2
  go_wp2
  go_ret
  exact ⟨rfl, HB2.out⟩
set_option maxRecDepth 100000 in
set_option maxHeartbeats 2000000 in
theorem may_c (o : OpT) (h1 : mayI o.s o.n = true) (h2 : fitsO o = true) (h3 : ¬ o = onlyO o) (w : World) : Calls Try.prog 62 #[.agg (opCells o).toArray] w fun e w' => e = .returned (.int .i64 1) ∧ Below w.heap.size w w' := by
  have hm := may_any o.s o.n
  rw [h1] at hm
  have HM := Lib.hid hm
  have hf := fits_op o
  rw [h2] at hf
  have HF := Lib.hid hf
  have HN := Lib.hid (only_op o)
  have hq := fun W => neq_op_run o (onlyO o) W
  rw [decide_eq_false h3] at hq
  have HQ := Lib.hid hq
  clear hm h1 hf h2 hq h3
  go_enter Try.func62, Try.ntmps62
  go_upto_region 1 with fail
  obtain ⟨W1, gW1⟩ : ∃ x, w.alloc (.cells (opCells o).toArray 53) = x := ⟨_, rfl⟩
  have HO : RowKit.Hid (Whole W1 w.heap.size 53 (opCells o)) := Lib.hid (by rw [← gW1]; exact Whole.new_ w _ _)
  have HB : RowKit.Hid (Below w.heap.size w W1) := Lib.hid (by rw [← gW1]; exact below1 _ _)
  rw [gW1]
  clear gW1
  obtain ⟨g0, gg0⟩ : ∃ x, w.heap.size = x := ⟨_, rfl⟩
  rw [gg0] at HO ⊢
  clear gg0
  have ld1 : ∀ w', Kept Nil_ W1.drew w' → w'.cell? ⟨g0, 1, none⟩ = some (.int .i64 o.s) := fun w' h => h.nil_cell (HO.out.drew.cell (i := 1) rfl)
  have ld2 : ∀ w', Kept Nil_ W1.drew w' → w'.cell? ⟨g0, 2, none⟩ = some (.int .i64 o.n) := fun w' h => h.nil_cell (HO.out.drew.cell (i := 2) rfl)
  refine wp_region_reg (Nil_) (by kernel_rfl) ?_
  refine opR_ 0 3 (v := ?_) ?_ ?_; rotate_left
  · intro w' hw'; go_simp; (try with_reducible rfl)
  simp only [st0_, st1_]
  refine opR_ 1 4 (v := ?_) ?_ ?_; rotate_left
  · intro w' hw'; go_simp; (try with_reducible rfl)
  simp only [st0_, st1_]
  refine opX_ 2 5 ?_
  apply Exists.intro
  apply And.intro
  · apply yr_call; rfl; rotate_left; intro w' hw'; exact HM.out w'; intro w'; go_simp
  simp only [st0_, st1_]
  refine opR_ 3 6 (v := ?_) ?_ ?_; rotate_left
  · intro w' hw'; go_simp; (try with_reducible rfl)
  simp only [st0_, st1_]
  refine opR_ 4 7 (v := ?_) ?_ ?_; rotate_left
  · intro w' hw'; go_simp; (try with_reducible rfl)
  simp only [st0_, st1_]
  refine opX_ 5 8 ?_
  apply Exists.intro
  apply And.intro
  · exact yr_load (by rfl) 53 (.tmp 1) rfl g0 rfl 53 (opCells o) _ (fun w' h => h.whole HO.out.drew (fun h => h)) Try.underlying53 rfl (by kernel_rfl)
  simp only [st0_, st1_]
  refine opX_ 6 9 ?_
  apply Exists.intro
  apply And.intro
  · apply yr_call; rfl; rotate_left; intro w' hw'; exact HF.out w'; intro w'; go_simp
  simp only [st0_, st1_]
  refine opR_ 7 10 (v := ?_) ?_ ?_; rotate_left
  · intro w' hw'; go_simp; (try with_reducible rfl)
  simp only [st0_, st1_]
  refine opR_ 8 11 (v := ?_) ?_ ?_; rotate_left
  · intro w' hw'; go_simp; (try with_reducible rfl)
  simp only [st0_, st1_]
  refine opR_ 9 12 (v := ?_) ?_ ?_; rotate_left
  · intro w' hw'; go_simp; (try with_reducible rfl)
  simp only [st0_, st1_]
  refine opX_ 10 13 ?_
  apply Exists.intro
  apply And.intro
  · exact yr_load (by rfl) 53 (.tmp 1) rfl g0 rfl 53 (opCells o) _ (fun w' h => h.whole HO.out.drew (fun h => h)) Try.underlying53 rfl (by kernel_rfl)
  simp only [st0_, st1_]
  refine opX_ 11 14 ?_
  apply Exists.intro
  apply And.intro
  · exact yr_load (by rfl) 53 (.tmp 1) rfl g0 rfl 53 (opCells o) _ (fun w' h => h.whole HO.out.drew (fun h => h)) Try.underlying53 rfl (by kernel_rfl)
  simp only [st0_, st1_]
  refine opX_ 12 15 ?_
  apply Exists.intro
  apply And.intro
  · apply yr_call; rfl; rotate_left; intro w' hw'; exact HN.out w'; intro w'; go_simp
  simp only [st0_, st1_]
  refine opX_ 13 16 ?_
  apply Exists.intro
  apply And.intro
  · exact yr_run (by rfl) (fun w' _ => exec_binop_agg .neq 53 (.tmp 13) (.tmp 15) 53 rfl rfl rfl (by kernel_rfl) (HQ.out w'))
  simp only [st0_, st1_]
  refine opR_ 14 17 (v := ?_) ?_ ?_; rotate_left
  · intro w' hw'; go_simp; (try with_reducible rfl)
  simp only [st0_, st1_]
  refine wpR_done (by kernel_rfl) ?_ _
  intro W2 hw2
  have HB2 : RowKit.Hid (Below w.heap.size w W2) := Lib.hid (HB.out.drew.trans (hw2.mono HB.out.drew.size))
  clear hw2 ld1 ld2
  go_wp2
  go_ret
  exact ⟨rfl, HB2.out⟩
set_option maxRecDepth 100000 in
set_option maxHeartbeats 2000000 in
theorem may_d (o : OpT) (h1 : mayI o.s o.n = true) (h2 : fitsO o = true) (h3 : o = onlyO o) (h4 : mayL o.t = false) (w : World) : Calls Try.prog 62 #[.agg (opCells o).toArray] w fun e w' => e = .returned (.int .i64 4) ∧ Below w.heap.size w w' := by
  have hm := may_any o.s o.n
  rw [h1] at hm
  have HM := Lib.hid hm
  have hf := fits_op o
  rw [h2] at hf
  have HF := Lib.hid hf
  have HN := Lib.hid (only_op o)
  have hq := fun W => neq_op_run o (onlyO o) W
  rw [decide_eq_true h3] at hq
  have HQ := Lib.hid hq
  clear hm h1 hf h2 hq h3
  have hl := maylabel_any o.t
  rw [h4] at hl
  have HL := Lib.hid hl
  clear hl h4
  go_enter Try.func62, Try.ntmps62
  go_upto_region 1 with fail
  obtain ⟨W1, gW1⟩ : ∃ x, w.alloc (.cells (opCells o).toArray 53) = x := ⟨_, rfl⟩
  have HO : RowKit.Hid (Whole W1 w.heap.size 53 (opCells o)) := Lib.hid (by rw [← gW1]; exact Whole.new_ w _ _)
  have HB : RowKit.Hid (Below w.heap.size w W1) := Lib.hid (by rw [← gW1]; exact below1 _ _)
  rw [gW1]
  clear gW1
  obtain ⟨g0, gg0⟩ : ∃ x, w.heap.size = x := ⟨_, rfl⟩
  rw [gg0] at HO ⊢
  clear gg0
  have ld1 : ∀ w', Kept Nil_ W1.drew w' → w'.cell? ⟨g0, 1, none⟩ = some (.int .i64 o.s) := fun w' h => h.nil_cell (HO.out.drew.cell (i := 1) rfl)
  have ld2 : ∀ w', Kept Nil_ W1.drew w' → w'.cell? ⟨g0, 2, none⟩ = some (.int .i64 o.n) := fun w' h => h.nil_cell (HO.out.drew.cell (i := 2) rfl)
  refine wp_region_reg (Nil_) (by kernel_rfl) ?_
  refine opR_ 0 3 (v := ?_) ?_ ?_; rotate_left
  · intro w' hw'; go_simp; (try with_reducible rfl)
  simp only [st0_, st1_]
  refine opR_ 1 4 (v := ?_) ?_ ?_; rotate_left
  · intro w' hw'; go_simp; (try with_reducible rfl)
  simp only [st0_, st1_]
  refine opX_ 2 5 ?_
  apply Exists.intro
  apply And.intro
  · apply yr_call; rfl; rotate_left; intro w' hw'; exact HM.out w'; intro w'; go_simp
  simp only [st0_, st1_]
  refine opR_ 3 6 (v := ?_) ?_ ?_; rotate_left
  · intro w' hw'; go_simp; (try with_reducible rfl)
  simp only [st0_, st1_]
  refine opR_ 4 7 (v := ?_) ?_ ?_; rotate_left
  · intro w' hw'; go_simp; (try with_reducible rfl)
  simp only [st0_, st1_]
  refine opX_ 5 8 ?_
  apply Exists.intro
  apply And.intro
  · exact yr_load (by rfl) 53 (.tmp 1) rfl g0 rfl 53 (opCells o) _ (fun w' h => h.whole HO.out.drew (fun h => h)) Try.underlying53 rfl (by kernel_rfl)
  simp only [st0_, st1_]
  refine opX_ 6 9 ?_
  apply Exists.intro
  apply And.intro
  · apply yr_call; rfl; rotate_left; intro w' hw'; exact HF.out w'; intro w'; go_simp
  simp only [st0_, st1_]
  refine opR_ 7 10 (v := ?_) ?_ ?_; rotate_left
  · intro w' hw'; go_simp; (try with_reducible rfl)
  simp only [st0_, st1_]
  refine opR_ 8 11 (v := ?_) ?_ ?_; rotate_left
  · intro w' hw'; go_simp; (try with_reducible rfl)
  simp only [st0_, st1_]
  refine opR_ 9 12 (v := ?_) ?_ ?_; rotate_left
  · intro w' hw'; go_simp; (try with_reducible rfl)
  simp only [st0_, st1_]
  refine opX_ 10 13 ?_
  apply Exists.intro
  apply And.intro
  · exact yr_load (by rfl) 53 (.tmp 1) rfl g0 rfl 53 (opCells o) _ (fun w' h => h.whole HO.out.drew (fun h => h)) Try.underlying53 rfl (by kernel_rfl)
  simp only [st0_, st1_]
  refine opX_ 11 14 ?_
  apply Exists.intro
  apply And.intro
  · exact yr_load (by rfl) 53 (.tmp 1) rfl g0 rfl 53 (opCells o) _ (fun w' h => h.whole HO.out.drew (fun h => h)) Try.underlying53 rfl (by kernel_rfl)
  simp only [st0_, st1_]
  refine opX_ 12 15 ?_
  apply Exists.intro
  apply And.intro
  · apply yr_call; rfl; rotate_left; intro w' hw'; exact HN.out w'; intro w'; go_simp
  simp only [st0_, st1_]
  refine opX_ 13 16 ?_
  apply Exists.intro
  apply And.intro
  · exact yr_run (by rfl) (fun w' _ => exec_binop_agg .neq 53 (.tmp 13) (.tmp 15) 53 rfl rfl rfl (by kernel_rfl) (HQ.out w'))
  simp only [st0_, st1_]
  refine opR_ 14 17 (v := ?_) ?_ ?_; rotate_left
  · intro w' hw'; go_simp; (try with_reducible rfl)
  simp only [st0_, st1_]
  refine wpR_done (by kernel_rfl) ?_ _
  intro W2 hw2
  have HB2 : RowKit.Hid (Below w.heap.size w W2) := Lib.hid (HB.out.drew.trans (hw2.mono HB.out.drew.size))
  have HO2 : RowKit.Hid (Whole W2 g0 53 (opCells o)) := Lib.hid (HO.out.drew.below hw2)
  have l18 := HO2.out.cell (i := 18) rfl
  clear hw2 ld1 ld2
  go_wp2_with (first | (go_at_call 81; refine (HL.out _).mono ?_; rintro e w3 ⟨rfl, hb3⟩))
  go_ret
  exact ⟨rfl, HB2.out.trans (hb3.mono HB2.out.size)⟩
set_option maxRecDepth 100000 in
set_option maxHeartbeats 2000000 in
theorem may_e (o : OpT) (h1 : mayI o.s o.n = true) (h2 : fitsO o = true) (h3 : o = onlyO o) (h4 : mayL o.t = true) (w : World) : Calls Try.prog 62 #[.agg (opCells o).toArray] w fun e w' => e = .returned (.int .i64 0) ∧ Below w.heap.size w w' := by
  have hm := may_any o.s o.n
  rw [h1] at hm
  have HM := Lib.hid hm
  have hf := fits_op o
  rw [h2] at hf
  have HF := Lib.hid hf
  have HN := Lib.hid (only_op o)
  have hq := fun W => neq_op_run o (onlyO o) W
  rw [decide_eq_true h3] at hq
  have HQ := Lib.hid hq
  clear hm h1 hf h2 hq h3
  have hl := maylabel_any o.t
  rw [h4] at hl
  have HL := Lib.hid hl
  clear hl h4
  go_enter Try.func62, Try.ntmps62
  go_upto_region 1 with fail
  obtain ⟨W1, gW1⟩ : ∃ x, w.alloc (.cells (opCells o).toArray 53) = x := ⟨_, rfl⟩
  have HO : RowKit.Hid (Whole W1 w.heap.size 53 (opCells o)) := Lib.hid (by rw [← gW1]; exact Whole.new_ w _ _)
  have HB : RowKit.Hid (Below w.heap.size w W1) := Lib.hid (by rw [← gW1]; exact below1 _ _)
  rw [gW1]
  clear gW1
  obtain ⟨g0, gg0⟩ : ∃ x, w.heap.size = x := ⟨_, rfl⟩
  rw [gg0] at HO ⊢
  clear gg0
  have ld1 : ∀ w', Kept Nil_ W1.drew w' → w'.cell? ⟨g0, 1, none⟩ = some (.int .i64 o.s) := fun w' h => h.nil_cell (HO.out.drew.cell (i := 1) rfl)
  have ld2 : ∀ w', Kept Nil_ W1.drew w' → w'.cell? ⟨g0, 2, none⟩ = some (.int .i64 o.n) := fun w' h => h.nil_cell (HO.out.drew.cell (i := 2) rfl)
  refine wp_region_reg (Nil_) (by kernel_rfl) ?_
  refine opR_ 0 3 (v := ?_) ?_ ?_; rotate_left
  · intro w' hw'; go_simp; (try with_reducible rfl)
  simp only [st0_, st1_]
  refine opR_ 1 4 (v := ?_) ?_ ?_; rotate_left
  · intro w' hw'; go_simp; (try with_reducible rfl)
  simp only [st0_, st1_]
  refine opX_ 2 5 ?_
  apply Exists.intro
  apply And.intro
  · apply yr_call; rfl; rotate_left; intro w' hw'; exact HM.out w'; intro w'; go_simp
  simp only [st0_, st1_]
  refine opR_ 3 6 (v := ?_) ?_ ?_; rotate_left
  · intro w' hw'; go_simp; (try with_reducible rfl)
  simp only [st0_, st1_]
  refine opR_ 4 7 (v := ?_) ?_ ?_; rotate_left
  · intro w' hw'; go_simp; (try with_reducible rfl)
  simp only [st0_, st1_]
  refine opX_ 5 8 ?_
  apply Exists.intro
  apply And.intro
  · exact yr_load (by rfl) 53 (.tmp 1) rfl g0 rfl 53 (opCells o) _ (fun w' h => h.whole HO.out.drew (fun h => h)) Try.underlying53 rfl (by kernel_rfl)
  simp only [st0_, st1_]
  refine opX_ 6 9 ?_
  apply Exists.intro
  apply And.intro
  · apply yr_call; rfl; rotate_left; intro w' hw'; exact HF.out w'; intro w'; go_simp
  simp only [st0_, st1_]
  refine opR_ 7 10 (v := ?_) ?_ ?_; rotate_left
  · intro w' hw'; go_simp; (try with_reducible rfl)
  simp only [st0_, st1_]
  refine opR_ 8 11 (v := ?_) ?_ ?_; rotate_left
  · intro w' hw'; go_simp; (try with_reducible rfl)
  simp only [st0_, st1_]
  refine opR_ 9 12 (v := ?_) ?_ ?_; rotate_left
  · intro w' hw'; go_simp; (try with_reducible rfl)
  simp only [st0_, st1_]
  refine opX_ 10 13 ?_
  apply Exists.intro
  apply And.intro
  · exact yr_load (by rfl) 53 (.tmp 1) rfl g0 rfl 53 (opCells o) _ (fun w' h => h.whole HO.out.drew (fun h => h)) Try.underlying53 rfl (by kernel_rfl)
  simp only [st0_, st1_]
  refine opX_ 11 14 ?_
  apply Exists.intro
  apply And.intro
  · exact yr_load (by rfl) 53 (.tmp 1) rfl g0 rfl 53 (opCells o) _ (fun w' h => h.whole HO.out.drew (fun h => h)) Try.underlying53 rfl (by kernel_rfl)
  simp only [st0_, st1_]
  refine opX_ 12 15 ?_
  apply Exists.intro
  apply And.intro
  · apply yr_call; rfl; rotate_left; intro w' hw'; exact HN.out w'; intro w'; go_simp
  simp only [st0_, st1_]
  refine opX_ 13 16 ?_
  apply Exists.intro
  apply And.intro
  · exact yr_run (by rfl) (fun w' _ => exec_binop_agg .neq 53 (.tmp 13) (.tmp 15) 53 rfl rfl rfl (by kernel_rfl) (HQ.out w'))
  simp only [st0_, st1_]
  refine opR_ 14 17 (v := ?_) ?_ ?_; rotate_left
  · intro w' hw'; go_simp; (try with_reducible rfl)
  simp only [st0_, st1_]
  refine wpR_done (by kernel_rfl) ?_ _
  intro W2 hw2
  have HB2 : RowKit.Hid (Below w.heap.size w W2) := Lib.hid (HB.out.drew.trans (hw2.mono HB.out.drew.size))
  have HO2 : RowKit.Hid (Whole W2 g0 53 (opCells o)) := Lib.hid (HO.out.drew.below hw2)
  have l18 := HO2.out.cell (i := 18) rfl
  clear hw2 ld1 ld2
  go_wp2_with (first | (go_at_call 81; refine (HL.out _).mono ?_; rintro e w3 ⟨rfl, hb3⟩))
  go_ret
  exact ⟨rfl, HB2.out.trans (hb3.mono HB2.out.size)⟩
theorem mayop_any (o : OpT) : Pure 62 #[.agg (opCells o).toArray] (.int .i64 (mayO o)) := fun w => by
  unfold mayO
  by_cases h1 : mayI o.s o.n = true
  case neg =>
    rw [if_neg (fun h => h1 h.1)]
    exact may_a o (by simpa using h1) w
  by_cases h2 : fitsO o = true
  case neg =>
    rw [if_neg (fun h => h2 h.2.1)]
    exact may_b o h1 (by simpa using h2) w
  by_cases h3 : o = onlyO o
  case neg =>
    rw [if_neg (fun h => h3 h.2.2)]
    exact may_c o h1 h2 h3 w
  rw [if_pos ⟨h1, h2, h3⟩]
  by_cases h4 : mayL o.t = true
  · rw [if_pos h4]
    exact may_e o h1 h2 h3 h4 w
  · rw [if_neg h4]
    exact may_d o h1 h2 h3 (by simpa using h4) w
end Go.Proofs.Ytinfbaflkjghhaa
/- The contract of the document's own rest. -/
namespace Go.Proofs.Ytinfbaflkjghhaa
open Go.RowKit Go.Great
end Go.Proofs.Ytinfbaflkjghhaa
/- The contract of the document's own MayDart. -/
namespace Go.Proofs.Ytinfbaflkjghhaa
open Go.RowKit
end Go.Proofs.Ytinfbaflkjghhaa
/- The contracts of the document's own corner, MayAttr, May for operations. -/
namespace Go.Proofs.Ytinfbaflkjghhaa
open Go.RowKit
def zeroO : OpT := ⟨0, 0, 0, 0, 0, 0, 0, 0, 0, 0, 0, 0, 0, 0, 0, 0, 0, false, ⟨#[]⟩, 0⟩
end Go.Proofs.Ytinfbaflkjghhaa
/- The contract of the document's own May for operations, whole: it is the program's. -/
namespace Go.Proofs.Ytinfbaflkjghhaa
open Go.RowKit
end Go.Proofs.Ytinfbaflkjghhaa
/- The contracts of op.MayEdit and of the document's own. -/
namespace Go.Proofs.Ytinfbaflkjghhaa
open Go.RowKit
/-- What is wrong with the first of them that is wrong. -/
def mayEs : List OpT → Int
  | [] => 0
  | o :: l => if mayO o = 0 then mayEs l else mayO o
/-- What is wrong with an edit. -/
def mayE (L : List OpT) : Int := if L.length < 1 ∨ 6 < L.length then 3 else mayEs L
theorem mayEs_app (l m : List OpT) : mayEs (l ++ m) = if mayEs l = 0 then mayEs m else mayEs l := by
  induction l with
  | nil => simp [mayEs]
  | cons o l ih =>
    simp only [List.cons_append, mayEs]
    by_cases h : mayO o = 0
    · simp [h, ih]
    · simp [h]
theorem mayEs_next (L : List OpT) (k : Nat) (o : OpT) (h : L[k]? = some o) (h0 : mayEs (L.take k) = 0) (ho : mayO o = 0) : mayEs (L.take (k + 1)) = 0 := by
  rw [take_snoc_ L k o h, mayEs_app, if_pos h0]
  simp [mayEs, ho]
theorem mayEs_stop (L : List OpT) (k : Nat) (o : OpT) (h : L[k]? = some o) (h0 : mayEs (L.take k) = 0) (ho : mayO o ≠ 0) : mayEs L = mayO o := by
  have e : L = L.take (k + 1) ++ L.drop (k + 1) := (List.take_append_drop _ _).symm
  rw [e, take_snoc_ L k o h, List.append_assoc, mayEs_app, if_pos h0]
  simp [mayEs, ho]
theorem opCells_len' (o : OpT) : (opCells o).length = 20 := rfl
theorem opCells_one (o : OpT) : ∀ u ∈ opCells o, u.oneCell' = true := by simp [opCells, Value.oneCell']
theorem opCells_all (o : OpT) : (opCells o).toArray.all (·.oneCell') = true := by simp [opCells, Value.oneCell']
/-- How a round of the loop over an edit stands. -/
def EdIn (L : List OpT) (W1 : World) (k : Nat) (wr : World) : Prop := Ext W1 wr ∧ mayEs (L.take k) = 0
set_option maxRecDepth 100000 in
set_option maxHeartbeats 2000000 in
theorem mayedit_any (A : Option Addr) (n c : Nat) (L : List OpT) (w : World) (h : RdS w w.heap.size 20 A n c (rowsV opCells L)) (hn : n ≤ maxLen) :
    Calls Try.prog 41 #[.agg #[.slice A n c]] w fun e w' => e = .returned (.int .i64 (mayE L)) ∧ Below w.heap.size w w' := by
  have hl := h.rlen opCells_len' (by decide)
  unfold maxLen at hn
  by_cases h1 : n < 1
  · have hm : mayE L = 3 := by unfold mayE; rw [if_pos (by omega)]
    rw [hm]
    have q1 : decide ((n : Int) < 1) = true := decide_eq_true (by omega)
    clear hm hl h1
    go_enter Try.func41, Try.ntmps41
    go_wp2
    go_ret
    exact ⟨rfl, below1 _ _⟩
  have q1 : decide ((n : Int) < 1) = false := decide_eq_false (by omega)
  by_cases h6 : 6 < n
  · have hm : mayE L = 3 := by unfold mayE; rw [if_pos (by omega)]
    rw [hm]
    have q6 : decide ((6 : Int) < (n : Int)) = true := decide_eq_true (by omega)
    clear hm hl h1
    go_enter Try.func41, Try.ntmps41
    go_wp2
    go_ret
    exact ⟨rfl, below1 _ _⟩
  have q6 : decide ((6 : Int) < (n : Int)) = false := decide_eq_false (by omega)
  have hm : mayE L = mayEs L := by unfold mayE; rw [if_neg (by omega)]
  have HM := Lib.hid hm
  have HR := Lib.hid h
  obtain rfl := hl
  clear hm h
  go_enter Try.func41, Try.ntmps41
  go_wp2
  clear q1 q6
  obtain ⟨W1, gW1⟩ : ∃ x, w.alloc (.cells #[.slice A L.length c] 28) = x := ⟨_, rfl⟩
  have HB : RowKit.Hid (Below w.heap.size w W1) := Lib.hid (by rw [← gW1]; exact below1 _ _)
  have HRd : RowKit.Hid (RdS W1 W1.heap.size 20 A L.length c (rowsV opCells L)) := Lib.hid (by rw [← gW1]; exact HR.out.al _)
  have HE : RowKit.Hid (Whole W1 w.heap.size 28 [.slice A L.length c]) := Lib.hid (by rw [← gW1]; exact Whole.new_ w _ [_])
  rw [gW1]
  clear gW1
  obtain ⟨g0, gg0⟩ : ∃ x, w.heap.size = x := ⟨_, rfl⟩
  rw [gg0] at HE ⊢
  clear gg0
  go_loopw [19] (fun i wr => ∃ k : Nat, k ≤ L.length ∧ i = .int .i64 k ∧ RowKit.Hid (EdIn L W1 k wr)) (fun i _ => L.length - (intOf i).toNat)
  case atStart => exact ⟨0, Nat.zero_le _, rfl, Lib.hid ⟨Ext.refl _, rfl⟩⟩
  case round =>
    rename_i wr _
    obtain ⟨k, hk, rfl, hin⟩ := hrel
    by_cases hlt : k < L.length
    · have hk0 : L[k]? = some (L[k]'(by omega)) := List.getElem?_eq_getElem _
      obtain ⟨o, go⟩ : ∃ o, L[k]'(by omega) = o := ⟨_, rfl⟩
      rw [go] at hk0
      have HK := Lib.hid hk0
      have HRd2 := Lib.hid (HRd.out.bl hin.out.1)
      obtain ⟨b, off, rfl, hbB, hpl⟩ := HRd2.out.place opCells_len' (by decide) (by omega)
      have HP := Lib.hid (hpl k o hk0)
      clear go hk0 hpl hbB
      obtain ⟨x, gx⟩ : ∃ x, mayO o = x := ⟨_, rfl⟩
      have HC := Lib.hid (mayop_any o)
      rw [gx] at HC
      have HX := Lib.hid gx
      clear gx
      go_upto_region 5 with fail
      refine wp_region_lit ?_
      refine wl_read (v := ?_) (some 21) rfl (by rfl) ?_ ?_
      rotate_left
      · go_simp; (try with_reducible rfl)
      simp only [Act.put, stA_, st0_, st1_]
      refine wl_load_at (some 22) rfl (by rfl) 53 (.tmp 21) rfl ⟨b, off + k * 20, none⟩ rfl (opCells o) _ HP.out Try.underlying53 rfl (by kernel_rfl) ?_
      simp only [Act.put, stA_, st0_, st1_]
      refine wl_new 4 rfl rfl rfl 53 (.tmp 22) rfl rfl #[.int .i64 0, .int .i64 0, .int .i64 0, .int .i64 0, .int .i64 0, .int .i64 0, .int .i64 0, .int .i64 0, .int .i64 0, .int .i64 0, .int .i64 0, .int .i64 0, .int .i64 0, .int .i64 0, .int .i64 0, .int .i64 0, .int .i64 0, .bool false, .string ⟨#[]⟩, .int .i64 0] ?_ (opCells o).toArray (by simp) rfl (by kernel_rfl) rfl (opCells_all o) ?_
      · go_simp; (try with_reducible rfl)
      simp only [Act.put, stA_, st0_, st1_]
      have HX2 : RowKit.Hid (Ext W1 (wr.alloc (.cells (opCells o).toArray 53))) := Lib.hid (hin.out.1.trans (below1 _ _))
      have HN : RowKit.Hid (Whole (wr.alloc (.cells (opCells o).toArray 53)) wr.heap.size 53 (opCells o)) := Lib.hid (Whole.new_ _ _ _)
      obtain ⟨W2, gW2⟩ : ∃ x, wr.alloc (.cells (opCells o).toArray 53) = x := ⟨_, rfl⟩
      obtain ⟨g2, gg2⟩ : ∃ x, wr.heap.size = x := ⟨_, rfl⟩
      rw [gW2] at HX2 HN ⊢
      rw [gg2] at HN ⊢
      clear gW2 gg2
      go_upto_region 6 with fail
      refine wp_region_lit ?_
      refine wl_load (some 23) rfl (by rfl) 53 (.tmp 4) rfl g2 rfl 53 (opCells o) _ HN.out Try.underlying53 rfl (by kernel_rfl) ?_
      simp only [Act.put, stA_, st0_, st1_]
      go_wp2_with fail
      refine (HC.out _).mono ?_
      rintro e w3 ⟨rfl, hb3⟩
      have HX3 := Lib.hid (HX2.out.trans hb3)
      clear hb3
      by_cases hx : x = 0
      · subst hx
        have HI : RowKit.Hid (EdIn L W1 (k + 1) w3) := Lib.hid ⟨HX3.out, mayEs_next L k o HK.out hin.out.2 HX.out⟩
        go_wp2
        go_roundw
        case rel => exact ⟨k + 1, by omega, by go_num, HI⟩
        case measure => simp [intOf]; omega
      · have q : (x == 0) = false := by simpa using hx
        have q' : (x != 0) = true := by simpa using hx
        have HR9 : RowKit.Hid (mayEs L = x) := Lib.hid (by rw [mayEs_stop L k o HK.out hin.out.2 (by rw [HX.out]; exact hx), HX.out])
        clear hx
        go_wp2
        go_ret
        exact ⟨ret_int (by rw [HM.out, HR9.out]), HB.out.trans (HX3.out.mono HB.out.size)⟩
    · have HR9 : RowKit.Hid (mayEs L = 0) := Lib.hid (by have := hin.out.2; rwa [List.take_of_length_le (by omega)] at this)
      go_wp2
      go_ret
      exact ⟨ret_int (by rw [HM.out, HR9.out]), HB.out.trans (hin.out.1.mono HB.out.size)⟩
end Go.Proofs.Ytinfbaflkjghhaa
/- Edits as bytes, and what bytes are read as: numbers alone. -/
namespace Go.Proofs.Ytinfbaflkjghhaa
open Go.RowKit
/-- A flag's byte. -/
def fl (e : Bool) : Nat := if e then 1 else 0
abbrev C5 := Int × Int × Int × Int × Int
/-- A corner's bytes. -/
def crB (c : C5) : List Nat := idB (c.1, c.2.1) ++ (if c.2.2.1 = 0 ∧ c.2.2.2.1 = 0 ∧ c.2.2.2.2 = 0 then [0] else ((1 + c.2.2.2.2) % 256).toNat :: idB (c.2.2.1, c.2.2.2.1))
def OpT.ca (o : OpT) : C5 := (o.a0, o.a1, o.a2, o.a3, o.a4)
def OpT.cb (o : OpT) : C5 := (o.b0, o.b1, o.b2, o.b3, o.b4)
/-- What an operation has beside its kind and its name. -/
def fdB (o : OpT) : List Nat :=
  if o.k = 3 then crB o.ca ++ crB o.cb
  else if o.k = 5 then idB (o.s1, o.n1) ++ (idB (o.s2, o.n2) ++ [(o.m % 256).toNat])
  else if o.k = 6 then idB (o.s2, o.n2)
  else if o.k = 7 then fl o.e :: textB o.t
  else if o.k = 8 then fl o.e :: be8 o.m
  else []
def opB (o : OpT) : List Nat := (o.k % 256).toNat :: (idB (o.s, o.n) ++ fdB o)
/-- An edit's bytes. -/
def edB (L : List OpT) : List Nat := L.length % 256 :: L.flatMap opB
/-- A name as it is read, and what is left. -/
def vI (L : List Nat) : Int × Int := if 4 ≤ L.length then tk4 L else (0, 0)
def lI (L : List Nat) : List Nat := if 4 ≤ L.length then L.drop 4 else L
def crV (L : List Nat) : C5 := if 0 < c1 (lI L) then ((vI L).1, (vI L).2, (vI ((lI L).drop 1)).1, (vI ((lI L).drop 1)).2, (c1 (lI L) : Int) - 1) else ((vI L).1, (vI L).2, 0, 0, 0)
def crL (L : List Nat) : List Nat := if 0 < c1 (lI L) then lI ((lI L).drop 1) else (lI L).drop 1
def vM (L : List Nat) : Int := if 8 ≤ L.length then num8 (L.take 8) else 0
def lM (L : List Nat) : List Nat := if 8 ≤ L.length then L.drop 8 else L
/-- An operation as it is read behind its kind and its name. -/
def fdV (k : Nat) (x : Int × Int) (M : List Nat) : OpT :=
  if k = 3 then ⟨3, x.1, x.2, 0, 0, 0, 0, (crV M).1, (crV M).2.1, (crV M).2.2.1, (crV M).2.2.2.1, (crV M).2.2.2.2, (crV (crL M)).1, (crV (crL M)).2.1, (crV (crL M)).2.2.1, (crV (crL M)).2.2.2.1, (crV (crL M)).2.2.2.2, false, ⟨#[]⟩, 0⟩
  else if k = 5 then ⟨5, x.1, x.2, (vI M).1, (vI M).2, (vI (lI M)).1, (vI (lI M)).2, 0, 0, 0, 0, 0, 0, 0, 0, 0, 0, false, ⟨#[]⟩, (c1 (lI (lI M)) : Int)⟩
  else if k = 6 then ⟨6, x.1, x.2, 0, 0, (vI M).1, (vI M).2, 0, 0, 0, 0, 0, 0, 0, 0, 0, 0, false, ⟨#[]⟩, 0⟩
  else if k = 7 then ⟨7, x.1, x.2, 0, 0, 0, 0, 0, 0, 0, 0, 0, 0, 0, 0, 0, 0, decide (c1 M ≠ 0), txT (M.drop 1), 0⟩
  else if k = 8 then ⟨8, x.1, x.2, 0, 0, 0, 0, 0, 0, 0, 0, 0, 0, 0, 0, 0, 0, decide (c1 M ≠ 0), ⟨#[]⟩, vM (M.drop 1)⟩
  else ⟨(k : Int), x.1, x.2, 0, 0, 0, 0, 0, 0, 0, 0, 0, 0, 0, 0, 0, 0, false, ⟨#[]⟩, 0⟩
def fdL (k : Nat) (M : List Nat) : List Nat :=
  if k = 3 then crL (crL M)
  else if k = 5 then (lI (lI M)).drop 1
  else if k = 6 then lI M
  else if k = 7 then leT (M.drop 1)
  else if k = 8 then lM (M.drop 1)
  else M
def opV (L : List Nat) : OpT := fdV (c1 L) (vI (L.drop 1)) (lI (L.drop 1))
def opL (L : List Nat) : List Nat := fdL (c1 L) (lI (L.drop 1))
def edV : Nat → List Nat → List OpT
  | 0, _ => []
  | n + 1, L => opV L :: edV n (opL L)
def edL : Nat → List Nat → List Nat
  | 0, L => L
  | n + 1, L => edL n (opL L)
/-- Whether what is read stands there. -/
def okC (L : List Nat) : Bool := idT L && (decide (1 ≤ (L.drop 4).length) && (decide (c1 (L.drop 4) ≤ 2) && (decide (c1 (L.drop 4) = 0) || idT ((L.drop 4).drop 1))))
def okF (L : List Nat) : Bool := decide (1 ≤ L.length) && decide (c1 L ≤ 1)
def okFd (k : Nat) (M : List Nat) : Bool :=
  if k = 3 then okC M && okC (crL M)
  else if k = 5 then idT M && (idT (M.drop 4) && decide (1 ≤ ((M.drop 4).drop 4).length))
  else if k = 6 then idT M
  else if k = 7 then okF M && isT (M.drop 1)
  else if k = 8 then okF M && decide (8 ≤ (M.drop 1).length)
  else true
def okO (L : List Nat) : Bool := decide (1 ≤ L.length) && (idT (L.drop 1) && okFd (c1 L) ((L.drop 1).drop 4))
def okN : Nat → List Nat → Bool
  | 0, _ => true
  | n + 1, L => okO L && okN n (opL L)
theorem idT_B {x : Int × Int} (R : List Nat) (h : mayI x.1 x.2 = true) : idT (idB x ++ R) = true ∧ vI (idB x ++ R) = x ∧ lI (idB x ++ R) = R := by
  have h1 : 4 ≤ (idB x ++ R).length := by simp [idB]
  have ht : tk4 (idB x ++ R) = x := tk4_idB h
  have hn : nm4 (idB x ++ R) = nm4 (idB x) := rfl
  have h2 : nm4 (idB x) = x := by
    have := tk4_idB h
    unfold tk4 at this
    by_cases hq : mayI (nm4 (idB x)).1 (nm4 (idB x)).2 = true
    · rwa [if_pos hq] at this
    · rw [if_neg hq] at this
      rw [← this] at h
      exact absurd h (by decide)
  refine ⟨decide_eq_true ⟨h1, by rw [hn, h2]; exact h⟩, ?_, ?_⟩
  · unfold vI; rw [if_pos h1, ht]
  · unfold lI; rw [if_pos h1, drop_app (A := idB x) (n := 4) rfl]
theorem drop_lt {L : List Nat} (h : ∀ b ∈ L, b < 256) (n : Nat) : ∀ b ∈ L.drop n, b < 256 := fun b hb => h b (List.mem_of_mem_drop hb)
theorem lI_lt {L : List Nat} (h : ∀ b ∈ L, b < 256) : ∀ b ∈ lI L, b < 256 := by
  unfold lI; split
  · exact drop_lt h 4
  · exact h
theorem crL_lt {L : List Nat} (h : ∀ b ∈ L, b < 256) : ∀ b ∈ crL L, b < 256 := by
  unfold crL; split
  · exact lI_lt (drop_lt (lI_lt h) 1)
  · exact drop_lt (lI_lt h) 1
theorem leT_lt {L : List Nat} (h : ∀ b ∈ L, b < 256) : ∀ b ∈ leT L, b < 256 := by
  unfold leT; split
  · exact drop_lt h _
  · exact h
theorem lM_lt {L : List Nat} (h : ∀ b ∈ L, b < 256) : ∀ b ∈ lM L, b < 256 := by
  unfold lM; split
  · exact drop_lt h _
  · exact h
theorem fdL_lt {L : List Nat} (k : Nat) (h : ∀ b ∈ L, b < 256) : ∀ b ∈ fdL k L, b < 256 := by
  unfold fdL
  split
  · exact crL_lt (crL_lt h)
  split
  · exact drop_lt (lI_lt (lI_lt h)) 1
  split
  · exact lI_lt h
  split
  · exact leT_lt (drop_lt h 1)
  split
  · exact lM_lt (drop_lt h 1)
  · exact h
theorem opL_lt {L : List Nat} (h : ∀ b ∈ L, b < 256) : ∀ b ∈ opL L, b < 256 := fdL_lt _ (lI_lt (drop_lt h 1))
theorem fdB3 {o : OpT} (h : o.k = 3) : fdB o = crB o.ca ++ crB o.cb := by unfold fdB; rw [if_pos h]
theorem fdB5 {o : OpT} (h : o.k = 5) : fdB o = idB (o.s1, o.n1) ++ (idB (o.s2, o.n2) ++ [(o.m % 256).toNat]) := by unfold fdB; rw [if_neg (by omega), if_pos h]
theorem fdB6 {o : OpT} (h : o.k = 6) : fdB o = idB (o.s2, o.n2) := by unfold fdB; rw [if_neg (by omega), if_neg (by omega), if_pos h]
theorem fdB7 {o : OpT} (h : o.k = 7) : fdB o = fl o.e :: textB o.t := by unfold fdB; rw [if_neg (by omega), if_neg (by omega), if_neg (by omega), if_pos h]
theorem fdB8 {o : OpT} (h : o.k = 8) : fdB o = fl o.e :: be8 o.m := by unfold fdB; rw [if_neg (by omega), if_neg (by omega), if_neg (by omega), if_neg (by omega), if_pos h]
theorem fdB0 {o : OpT} (k3 : o.k ≠ 3) (k5 : o.k ≠ 5) (k6 : o.k ≠ 6) (k7 : o.k ≠ 7) (k8 : o.k ≠ 8) : fdB o = [] := by unfold fdB; rw [if_neg k3, if_neg k5, if_neg k6, if_neg k7, if_neg k8]
theorem edV_len : ∀ (n : Nat) (L : List Nat), (edV n L).length = n
  | 0, _ => rfl
  | n + 1, L => by show (edV n (opL L)).length + 1 = n + 1; rw [edV_len n]
/-- A corner that may be is read as it was laid down. -/
theorem crB_ok {c : C5} (R : List Nat) (h : mayC c.1 c.2.1 c.2.2.1 c.2.2.2.1 c.2.2.2.2 = true) : okC (crB c ++ R) = true ∧ crV (crB c ++ R) = c ∧ crL (crB c ++ R) = R := by
  obtain ⟨c0, c1', c2, c3, c4⟩ := c
  unfold mayC at h
  simp only [Bool.and_eq_true, Bool.or_eq_true, decide_eq_true_eq] at h
  obtain ⟨h1, h2⟩ := h
  unfold crB
  simp only
  rw [List.append_assoc]
  obtain ⟨X, gX⟩ : ∃ X, (if c2 = 0 ∧ c3 = 0 ∧ c4 = 0 then [0] else ((1 + c4) % 256).toNat :: idB (c2, c3)) ++ R = X := ⟨_, rfl⟩
  rw [gX]
  obtain ⟨i1, i2, i3⟩ := idT_B (x := (c0, c1')) X h1
  have d4 : (idB (c0, c1') ++ X).drop 4 = X := drop_app (A := idB (c0, c1')) (n := 4) rfl
  unfold okC crV crL
  rw [i1, i2, i3, d4]
  by_cases hz : c2 = 0 ∧ c3 = 0 ∧ c4 = 0
  · rw [if_pos hz] at gX
    subst gX
    obtain ⟨rfl, rfl, rfl⟩ := hz
    refine ⟨rfl, rfl, rfl⟩
  · rw [if_neg hz, List.cons_append] at gX
    subst gX
    have hd := h2.resolve_left hz
    unfold mayD at hd
    simp only [Bool.and_eq_true, Bool.or_eq_true, decide_eq_true_eq] at hd
    obtain ⟨j1, j2, j3⟩ := idT_B (x := (c2, c3)) R hd.1
    have hc : c1 (((1 + c4) % 256).toNat :: (idB (c2, c3) ++ R)) = ((1 + c4) % 256).toNat := rfl
    have hdr : (((1 + c4) % 256).toNat :: (idB (c2, c3) ++ R)).drop 1 = idB (c2, c3) ++ R := rfl
    rw [hc, hdr, j1, j2, j3]
    have hq := hd.2
    rw [if_pos (by omega), if_pos (by omega)]
    refine ⟨?_, ?_, rfl⟩
    · simp only [Bool.true_and, Bool.and_eq_true, Bool.or_true, decide_eq_true_eq, and_true]
      exact ⟨by simp, by omega⟩
    · simp only [Prod.mk.injEq, true_and]
      omega
theorem tB_take {s : ByteArray} (R : List Nat) (hs : s.size < 256) : isT (textB s ++ R) = true ∧ txT (textB s ++ R) = s ∧ leT (textB s ++ R) = R := by
  have e : textB s ++ R = s.size :: (tB s ++ R) := by rw [textB, Nat.mod_eq_of_lt hs]; rfl
  rw [e]
  have hc : c1 (s.size :: (tB s ++ R)) = s.size := rfl
  have hl := tB_len s
  have h1 : isT (s.size :: (tB s ++ R)) = true := decide_eq_true ⟨by simp, by rw [hc]; simp [hl]; omega⟩
  refine ⟨h1, ?_, ?_⟩
  · unfold txT
    rw [if_pos h1, hc, List.drop_succ_cons, List.drop_zero, List.take_append_of_le_length (by omega), List.take_of_length_le (by omega), txt_tB]
  · unfold leT
    rw [if_pos h1, hc, Nat.add_comm, List.drop_succ_cons, drop_app hl]
theorem fdB_ok {o : OpT} (R : List Nat) (h : mayO o = 0) : okFd o.k.toNat (fdB o ++ R) = true ∧ fdV o.k.toNat (o.s, o.n) (fdB o ++ R) = o ∧ fdL o.k.toNat (fdB o ++ R) = R := by
  unfold mayO at h
  by_cases hh : mayI o.s o.n = true ∧ fitsO o = true ∧ o = onlyO o
  case neg => rw [if_neg hh] at h; exact absurd h (by decide)
  rw [if_pos hh] at h
  by_cases ht : mayL o.t = true
  case neg => rw [if_neg ht] at h; exact absurd h (by decide)
  obtain ⟨h1, h2, h3⟩ := hh
  have hts : o.t.size ≤ 16 := by
    unfold mayL at ht
    exact of_decide_eq_true (Bool.and_eq_true_iff.1 ht).1
  clear h ht h1
  unfold fitsO at h2
  unfold onlyO at h3
  unfold okFd fdV fdL
  by_cases k3 : o.k = 3
  · rw [fdB3 k3]
    rw [if_neg (by omega), if_pos k3] at h2
    rw [if_pos k3] at h3
    obtain ⟨q1, q2⟩ := Bool.and_eq_true_iff.1 h2
    obtain ⟨A1, A2, A3⟩ := crB_ok (c := o.ca) (crB o.cb ++ R) q1
    obtain ⟨B1, B2, B3⟩ := crB_ok (c := o.cb) R q2
    have e : o.k.toNat = 3 := by omega
    rw [List.append_assoc, if_pos e, if_pos e, if_pos e, A1, A2, A3, B1, B2, B3]
    refine ⟨rfl, Eq.trans ?_ h3.symm, rfl⟩
    rw [k3]
    rfl
  rw [if_neg k3] at h3
  have e3 : o.k.toNat ≠ 3 := by omega
  rw [if_neg e3, if_neg e3, if_neg e3]
  by_cases k5 : o.k = 5
  · rw [fdB5 k5]
    rw [if_neg (by omega), if_neg k3, if_pos k5] at h2
    rw [if_pos k5] at h3
    simp only [Bool.and_eq_true, decide_eq_true_eq] at h2
    obtain ⟨⟨q1, q2⟩, q3⟩ := h2
    obtain ⟨A1, A2, A3⟩ := idT_B (x := (o.s1, o.n1)) (idB (o.s2, o.n2) ++ ([(o.m % 256).toNat] ++ R)) q1
    obtain ⟨B1, B2, B3⟩ := idT_B (x := (o.s2, o.n2)) ([(o.m % 256).toNat] ++ R) q2
    have d1 : (idB (o.s1, o.n1) ++ (idB (o.s2, o.n2) ++ ([(o.m % 256).toNat] ++ R))).drop 4 = idB (o.s2, o.n2) ++ ([(o.m % 256).toNat] ++ R) := drop_app (A := idB (o.s1, o.n1)) (n := 4) rfl
    have d2 : (idB (o.s2, o.n2) ++ ([(o.m % 256).toNat] ++ R)).drop 4 = [(o.m % 256).toNat] ++ R := drop_app (A := idB (o.s2, o.n2)) (n := 4) rfl
    have e : o.k.toNat = 5 := by omega
    have hc : c1 ([(o.m % 256).toNat] ++ R) = (o.m % 256).toNat := rfl
    have hm : (((o.m % 256).toNat : Nat) : Int) = o.m := by omega
    rw [List.append_assoc, List.append_assoc, if_pos e, if_pos e, if_pos e, A1, A2, A3, d1, B1, B2, B3, d2, hc, hm]
    refine ⟨by simp, Eq.trans ?_ h3.symm, rfl⟩
    rw [k5]
  rw [if_neg k5] at h3
  have e5 : o.k.toNat ≠ 5 := by omega
  rw [if_neg e5, if_neg e5, if_neg e5]
  by_cases k6 : o.k = 6
  · rw [fdB6 k6]
    rw [if_neg (by omega), if_neg k3, if_neg k5, if_pos k6] at h2
    rw [if_pos k6] at h3
    obtain ⟨A1, A2, A3⟩ := idT_B (x := (o.s2, o.n2)) R h2
    have e : o.k.toNat = 6 := by omega
    rw [if_pos e, if_pos e, if_pos e, A1, A2, A3]
    refine ⟨rfl, Eq.trans ?_ h3.symm, rfl⟩
    rw [k6]
  rw [if_neg k6] at h3
  have e6 : o.k.toNat ≠ 6 := by omega
  rw [if_neg e6, if_neg e6, if_neg e6]
  have hfl : ∀ b : Bool, fl b ≤ 1 ∧ decide (fl b ≠ 0) = b := fun b => by cases b <;> exact ⟨by decide, rfl⟩
  by_cases k7 : o.k = 7
  · rw [fdB7 k7]
    rw [if_pos k7] at h3
    obtain ⟨A1, A2, A3⟩ := tB_take (s := o.t) R (by omega)
    have e : o.k.toNat = 7 := by omega
    have hd : (fl o.e :: textB o.t ++ R).drop 1 = textB o.t ++ R := rfl
    have hc : c1 (fl o.e :: textB o.t ++ R) = fl o.e := rfl
    rw [if_pos e, if_pos e, if_pos e, hd, A1, A2, A3, hc, (hfl o.e).2]
    refine ⟨?_, Eq.trans ?_ h3.symm, rfl⟩
    · unfold okF
      rw [hc, decide_eq_true (hfl o.e).1, decide_eq_true (by simp)]
      rfl
    · rw [k7]
  rw [if_neg k7] at h3
  have e7 : o.k.toNat ≠ 7 := by omega
  rw [if_neg e7, if_neg e7, if_neg e7]
  by_cases k8 : o.k = 8
  · rw [fdB8 k8]
    rw [if_neg (by omega), if_neg k3, if_neg k5, if_neg k6, if_pos k8] at h2
    rw [if_pos k8] at h3
    have hm := of_decide_eq_true (show decide (_ ∧ _) = true from h2)
    have e : o.k.toNat = 8 := by omega
    have hd : (fl o.e :: be8 o.m ++ R).drop 1 = be8 o.m ++ R := rfl
    have hc : c1 (fl o.e :: be8 o.m ++ R) = fl o.e := rfl
    have hl : 8 ≤ (be8 o.m ++ R).length := by rw [List.length_append, be8_len]; omega
    have hv : vM (be8 o.m ++ R) = o.m := by
      unfold vM
      rw [if_pos hl, List.take_append_of_le_length (by rw [be8_len]; omega), List.take_of_length_le (by rw [be8_len]; omega), num8_be8 _ ⟨by omega, by omega⟩]
    have hr : lM (be8 o.m ++ R) = R := by
      unfold lM
      rw [if_pos hl, drop_app (be8_len _)]
    rw [if_pos e, if_pos e, if_pos e, hd, hv, hr, hc, (hfl o.e).2]
    refine ⟨?_, Eq.trans ?_ h3.symm, rfl⟩
    · unfold okF
      rw [hc, decide_eq_true (hfl o.e).1, decide_eq_true hl, decide_eq_true (by simp)]
      rfl
    · rw [k8]
  rw [if_neg k8] at h3
  have e8 : o.k.toNat ≠ 8 := by omega
  have hk : 1 ≤ o.k ∧ o.k ≤ 7 := by
    by_cases hq : o.k = 1 ∨ o.k = 2 ∨ o.k = 4 ∨ o.k = 7
    · omega
    · rw [if_neg hq, if_neg k3, if_neg k5, if_neg k6, if_neg k8] at h2
      cases h2
  rw [if_neg e8, if_neg e8, if_neg e8, fdB0 k3 k5 k6 k7 k8, List.nil_append]
  refine ⟨rfl, Eq.trans ?_ h3.symm, rfl⟩
  rw [show ((o.k.toNat : Nat) : Int) = o.k by omega]
theorem mayO_head {o : OpT} (h : mayO o = 0) : mayI o.s o.n = true ∧ 1 ≤ o.k ∧ o.k ≤ 8 ∧ o.t.size ≤ 16 := by
  unfold mayO at h
  by_cases hh : mayI o.s o.n = true ∧ fitsO o = true ∧ o = onlyO o
  case neg => rw [if_neg hh] at h; exact absurd h (by decide)
  rw [if_pos hh] at h
  by_cases ht : mayL o.t = true
  case neg => rw [if_neg ht] at h; exact absurd h (by decide)
  have h2 := hh.2.1
  refine ⟨hh.1, ?_⟩
  have hts : o.t.size ≤ 16 := by
    unfold mayL at ht
    exact of_decide_eq_true (Bool.and_eq_true_iff.1 ht).1
  unfold fitsO at h2
  by_cases hq : o.k = 1 ∨ o.k = 2 ∨ o.k = 4 ∨ o.k = 7
  · omega
  rw [if_neg hq] at h2
  by_cases k3 : o.k = 3
  · omega
  rw [if_neg k3] at h2
  by_cases k5 : o.k = 5
  · omega
  rw [if_neg k5] at h2
  by_cases k6 : o.k = 6
  · omega
  rw [if_neg k6] at h2
  by_cases k8 : o.k = 8
  · omega
  rw [if_neg k8] at h2
  cases h2
/-- An operation that may be is read as it was laid down. -/
theorem opB_ok {o : OpT} (R : List Nat) (h : mayO o = 0) : okO (opB o ++ R) = true ∧ opV (opB o ++ R) = o ∧ opL (opB o ++ R) = R := by
  obtain ⟨h1, h2, h3, -⟩ := mayO_head h
  obtain ⟨f1, f2, f3⟩ := fdB_ok R h
  obtain ⟨i1, i2, i3⟩ := idT_B (x := (o.s, o.n)) (fdB o ++ R) h1
  have e : opB o ++ R = (o.k % 256).toNat :: (idB (o.s, o.n) ++ (fdB o ++ R)) := by unfold opB; rw [List.cons_append, List.append_assoc]
  have ek : (o.k % 256).toNat = o.k.toNat := by omega
  rw [e, ek]
  have hc : c1 (o.k.toNat :: (idB (o.s, o.n) ++ (fdB o ++ R))) = o.k.toNat := rfl
  have hd : (o.k.toNat :: (idB (o.s, o.n) ++ (fdB o ++ R))).drop 1 = idB (o.s, o.n) ++ (fdB o ++ R) := rfl
  have d4 : (idB (o.s, o.n) ++ (fdB o ++ R)).drop 4 = fdB o ++ R := drop_app (A := idB (o.s, o.n)) (n := 4) rfl
  unfold okO opV opL
  rw [hc, hd, i1, i2, i3, d4, f1, f2, f3]
  exact ⟨by simp, rfl, rfl⟩
theorem opsB_ok : ∀ (L : List OpT) (R : List Nat), mayEs L = 0 → okN L.length (L.flatMap opB ++ R) = true ∧ edV L.length (L.flatMap opB ++ R) = L ∧ edL L.length (L.flatMap opB ++ R) = R
  | [], R, _ => ⟨rfl, rfl, rfl⟩
  | o :: L, R, h => by
    unfold mayEs at h
    by_cases ho : mayO o = 0
    case neg => rw [if_neg ho] at h; exact absurd h ho
    rw [if_pos ho] at h
    obtain ⟨a1, a2, a3⟩ := opB_ok (L.flatMap opB ++ R) ho
    obtain ⟨b1, b2, b3⟩ := opsB_ok L R h
    rw [List.flatMap_cons, List.append_assoc]
    show (okO _ && okN L.length (opL _)) = true ∧ opV _ :: edV L.length (opL _) = o :: L ∧ edL L.length (opL _) = R
    rw [a1, a2, a3, b1, b2, b3]
    exact ⟨rfl, rfl, rfl⟩
theorem mayE_ok {L : List OpT} (h : mayE L = 0) : 1 ≤ L.length ∧ L.length ≤ 6 ∧ mayEs L = 0 := by
  unfold mayE at h
  by_cases hq : L.length < 1 ∨ 6 < L.length
  · rw [if_pos hq] at h; exact absurd h (by decide)
  · rw [if_neg hq] at h; exact ⟨by omega, by omega, h⟩
/-- What stands at the head of bytes. -/
def isE (B : List Nat) (L : List OpT) (R : List Nat) : Prop := mayE L = 0 ∧ B = edB L ++ R
def rdV (B : List Nat) : List OpT := edV (c1 B) (B.drop 1)
def rdR (B : List Nat) : List Nat := edL (c1 B) (B.drop 1)
theorem isE_rd {B : List Nat} {L : List OpT} {R : List Nat} (h : isE B L R) : rdV B = L ∧ rdR B = R ∧ okN (c1 B) (B.drop 1) = true ∧ 1 ≤ B.length ∧ c1 B = L.length := by
  obtain ⟨h1, rfl⟩ := h
  obtain ⟨h2, h3, h4⟩ := mayE_ok h1
  obtain ⟨q1, q2, q3⟩ := opsB_ok L R h4
  have hc : c1 (edB L ++ R) = L.length := by
    show L.length % 256 = L.length
    omega
  have hd : (edB L ++ R).drop 1 = L.flatMap opB ++ R := rfl
  unfold rdV rdR
  rw [hc, hd]
  exact ⟨q2, q3, q1, by simp [edB], rfl⟩
end Go.Proofs.Ytinfbaflkjghhaa
/- opcode.name, flag, corner. -/
namespace Go.Proofs.Ytinfbaflkjghhaa
open Go.RowKit
/-- What a call from a later world gives is given from an earlier one. -/
theorem Gives8.from_ {w w1 w' : World} {L : List Nat} {e : Ending} (h : Gives8 w1 L e w') (hx : Below w.heap.size w w1) : Gives8 w L e w' := by
  obtain ⟨A, c, h1, h2, h3, h4, h5⟩ := h
  exact ⟨A, c, h1, h2, fun a ha hl => Nat.le_trans hx.size (h3 a ha hl), own_lo8 h4 hx.size, hx.trans (h5.mono hx.size)⟩
set_option maxRecDepth 100000 in
theorem oname_any (x1 x2 : Int) (w : World) : Calls Try.prog 42 #[.agg #[.int .i64 x1, .int .i64 x2]] w (Gives8 w (idB (x1, x2))) := by
  have HP := Lib.hid (idput_any none 0 [] x1 x2 (w.alloc (.cells #[.int .i64 x1, .int .i64 x2] 47)) (rds_nil _ _ _) (by simp))
  rw [List.nil_append] at HP
  have hX : Whole (w.alloc (.cells #[.int .i64 x1, .int .i64 x2] 47)) w.heap.size 47 [.int .i64 x1, .int .i64 x2] := Whole.new_ _ _ [_, _]
  have c0 := hX.cell (i := 0) rfl
  have c1 := hX.cell (i := 1) rfl
  clear hX
  go_enter Try.func42, Try.ntmps42
  go_wp2_with (first
    | (go_at_call 63
       refine HP.out.mono ?_
       rintro e w2 ⟨A, c, rfl, h2, h3, h4, h5⟩
       have HG := Lib.hid (Gives8.from_ (w := w) ⟨A, c, rfl, h2, h3, h4, h5⟩ (below1 _ _))
       clear h2 h3 h4 h5))
  go_ret
  exact HG.out
set_option maxRecDepth 100000 in
theorem oflag_any (b : Bool) (w : World) : Calls Try.prog 66 #[.bool b] w (Gives8 w [fl b]) := by
  have hg : ∀ x : Nat, Gives8 w [x] (.returned (.slice (some ⟨w.heap.size, 0, none⟩) 1 1)) (w.alloc (.cells #[.int .u8 (x : Int)] 5)) := fun x =>
    gives8_whole rfl (by decide) (Nat.le_refl _) (Whole.new_ _ _ [_]) (below1 _ _)
  cases b with
  | true =>
    have HG := Lib.hid (hg 1)
    clear hg
    go_enter Try.func66, Try.ntmps66
    go_wp2
    go_ret
    exact HG.out
  | false =>
    have HG := Lib.hid (hg 0)
    clear hg
    go_enter Try.func66, Try.ntmps66
    go_wp2
    go_ret
    exact HG.out
theorem eq_dartz (a b c : Int) (W : World) : (binOp .eql 49 (.agg #[.int .i64 a, .int .i64 b, .int .i64 c]) (.agg #[.int .i64 0, .int .i64 0, .int .i64 0])).run Try.prog W = .ok (.bool (decide (a = 0 ∧ b = 0 ∧ c = 0))) W := eq_dartz_run a b c W
end Go.Proofs.Ytinfbaflkjghhaa
/- opcode.corner. -/
namespace Go.Proofs.Ytinfbaflkjghhaa
open Go.RowKit
theorem oname_4 (x1 x2 : Int) (w : World) : Calls Try.prog 42 #[.agg #[.int .i64 x1, .int .i64 x2]] w fun e w' => ∃ A c, e = .returned (.slice A 4 c) ∧ RdS w' w'.heap.size 1 A 4 c (rowsV f8 (idB (x1, x2))) ∧ (∀ a, A = some a → 0 < 4 → w.heap.size ≤ a.block) ∧ w'.ownsRow w.heap.size 5 1 (.slice A 4 c) 4 (rowsV f8 (idB (x1, x2))) ∧ Below w.heap.size w w' := (oname_any x1 x2 w).mono fun e w' h => h
set_option maxRecDepth 100000 in
set_option maxHeartbeats 4000000 in
theorem ocorner_any (a0 a1 a2 a3 a4 : Int) (w : World) : Calls Try.prog 64 #[.agg #[.int .i64 a0, .int .i64 a1, .int .i64 a2, .int .i64 a3, .int .i64 a4]] w (Gives8 w (crB (a0, a1, a2, a3, a4))) := by
  obtain ⟨i0, hi, hz0, hz1, hz2⟩ := info_parts_ info_u8
  have HQ := Lib.hid (eq_dartz a2 a3 a4)
  have HN0 := Lib.hid (fun W => oname_4 a0 a1 W)
  have HX : RowKit.Hid (Whole (w.alloc (.cells #[.int .i64 a0, .int .i64 a1, .int .i64 a2, .int .i64 a3, .int .i64 a4] 51)) w.heap.size 51 [.int .i64 a0, .int .i64 a1, .int .i64 a2, .int .i64 a3, .int .i64 a4]) := Lib.hid (Whole.new_ _ _ [_, _, _, _, _])
  have HB1 : RowKit.Hid (Below w.heap.size w (w.alloc (.cells #[.int .i64 a0, .int .i64 a1, .int .i64 a2, .int .i64 a3, .int .i64 a4] 51))) := Lib.hid (below1 _ _)
  go_enter Try.func64, Try.ntmps64
  go_upto_region 1 with fail
  obtain ⟨w1, gw1⟩ : ∃ z, w.alloc (.cells #[.int .i64 a0, .int .i64 a1, .int .i64 a2, .int .i64 a3, .int .i64 a4] 51) = z := ⟨_, rfl⟩
  rw [gw1] at HX HB1 ⊢
  obtain ⟨g0, gg0⟩ : ∃ z, w.heap.size = z := ⟨_, rfl⟩
  rw [gg0] at HX ⊢
  clear gw1 gg0
  have c0 := HX.out.cell (i := 0) rfl
  have c1 := HX.out.cell (i := 1) rfl
  go_upto_region 2 with (first
    | (go_at_call 42
       refine (HN0.out _).mono ?_
       rintro e w2 ⟨A2, c2, rfl, -, -, h4, h5⟩
       have HO2 : RowKit.Hid (Ow w1 w1.heap.size 5 1 (.slice A2 4 c2) 4 (rowsV f8 (idB (a0, a1))) w2) := Lib.hid ⟨h4, h5, Nat.le_refl _, h5.size⟩
       have HX2 := Lib.hid (HX.out.bl h5)
       clear h4 h5 c0 c1))
  have d2 := HX2.out.cell (i := 2) rfl
  have d3 := HX2.out.cell (i := 3) rfl
  have d4 := HX2.out.cell (i := 4) rfl
  have hq := HQ.out
  by_cases hz : a2 = 0 ∧ a3 = 0 ∧ a4 = 0
  · have HL : RowKit.Hid (crB (a0, a1, a2, a3, a4) = idB (a0, a1) ++ [0]) := Lib.hid (by unfold crB; rw [if_pos hz])
    rw [decide_eq_true hz] at hq
    have HQ2 := Lib.hid hq
    clear hz HX hq
    have hq := HQ2.out
    go_wp2_with (first
      | (at_builtin
         refine wpList_push2 rfl (.tmp 11) (.tmp 12) _ rfl _ 5 i0 _ 1 1 Try.underlying23 hi hz0 hz1 hz2 rfl (by decide) _ _ _ rfl (by exact Ow.up HO2.out (below1 _ _)) _ (some ⟨w2.heap.size, 0, none⟩) 1 1 [.int .u8 0] rfl (by exact RdS.new_ rfl (Nat.lt_succ_self _) rfl rfl) (by simp [Value.oneCell']) (by unfold maxLen; omega) (by omega) ?_
         intro v1 w3 how1 hb1 hgr1
         have HO3 := Lib.hid how1
         clear how1 hb1 hgr1 d2 d3 d4))
    have ho := HO3.out
    rw [show rowsV f8 (idB (a0, a1)) ++ [.int .u8 0] = rowsV f8 (idB (a0, a1) ++ [0]) from by rw [rowsV_app]; rfl] at ho
    obtain ⟨A9, c9, rfl, hG⟩ := gives8_ow (L := idB (a0, a1) ++ [0]) rfl ho
    have HG := Lib.hid (Gives8.from_ hG HB1.out)
    clear ho hG
    rw [HL.out]
    go_ret
    exact HG.out
  · have HL : RowKit.Hid (crB (a0, a1, a2, a3, a4) = idB (a0, a1) ++ (((1 + a4) % 256).toNat :: idB (a2, a3))) := Lib.hid (by unfold crB; rw [if_neg hz])
    rw [decide_eq_false hz] at hq
    have HQ2 := Lib.hid hq
    clear hz hq
    have hq := HQ2.out
    go_upto_region 4 with fail
    clear hq d2 d3 d4
    obtain ⟨q, gq⟩ : ∃ q, ((1 + a4) % 256).toNat = q := ⟨_, rfl⟩
    rw [gq] at HL
    obtain ⟨z, gz⟩ : ∃ z, IntKind.i64.wrap (1 + a4) = z := ⟨_, rfl⟩
    have hu : IntKind.u8.wrap z = (q : Int) := by rw [← gz, IntKind.wrap_u8, IntKind.wrap_i64, ← gq]; omega
    clear gq
    obtain ⟨B0, hB0⟩ : ∃ x, w1.heap.size = x := ⟨_, rfl⟩
    rw [hB0] at HO2
    have HB0 := Lib.hid hB0
    have HG1 : RowKit.Hid (g0 < B0) := Lib.hid (by have := HX.out.lt; omega)
    clear hB0
    have R9 := Lib.hid (HO2.out.up ((Below.refl _ _).drew))
    have EX9 : RowKit.Hid (Ext w1 w2.drew) := Lib.hid (Ext.trans HO2.out.below ((Below.refl _ _).drew))
    have lC2 : ∀ w', Kept (From_ B0) w2.drew w' → w'.cell? ⟨g0, 2, none⟩ = some (.int .i64 a2) := fun w' h => h.from_cell HG1.out (EX9.out.cell (HX.out.cell (i := 2) rfl))
    have lC3 : ∀ w', Kept (From_ B0) w2.drew w' → w'.cell? ⟨g0, 3, none⟩ = some (.int .i64 a3) := fun w' h => h.from_cell HG1.out (EX9.out.cell (HX.out.cell (i := 3) rfl))
    have lC4 : ∀ w', Kept (From_ B0) w2.drew w' → w'.cell? ⟨g0, 4, none⟩ = some (.int .i64 a4) := fun w' h => h.from_cell HG1.out (EX9.out.cell (HX.out.cell (i := 4) rfl))
    refine wp_region_reg (From_ B0) (by kernel_rfl) ?_
    apply wpR_next 0 (some 14)
    · rfl
    · rfl
    · kernel_rfl
    · kernel_rfl
    · kernel_rfl
    · first | exact fun _ _ _ _ h => Exit.noConfusion h.1 | exact fun _ _ _ _ h => h
    apply Exists.intro
    apply And.intro
    · apply yr_run; rfl; intro w' hw'; go_simp; (try with_reducible rfl)
    simp only [Act.put, stA_, st0_, st1_]
    apply wpR_next 1 (some 15)
    · rfl
    · rfl
    · kernel_rfl
    · kernel_rfl
    · kernel_rfl
    · first | exact fun _ _ _ _ h => Exit.noConfusion h.1 | exact fun _ _ _ _ h => h
    apply Exists.intro
    apply And.intro
    · apply yr_run; rfl; intro w' hw'; go_simp; (try with_reducible rfl)
    simp only [Act.put, stA_, st0_, st1_]
    apply wpR_next 2 (some 16)
    · rfl
    · rfl
    · kernel_rfl
    · kernel_rfl
    · kernel_rfl
    · first | exact fun _ _ _ _ h => Exit.noConfusion h.1 | exact fun _ _ _ _ h => h
    apply Exists.intro
    apply And.intro
    · apply yr_run; rfl; intro w' hw'; go_simp; (try with_reducible rfl)
    simp only [Act.put, stA_, st0_, st1_]
    apply wpR_next 3 (some 17)
    · rfl
    · rfl
    · kernel_rfl
    · kernel_rfl
    · kernel_rfl
    · first | exact fun _ _ _ _ h => Exit.noConfusion h.1 | exact fun _ _ _ _ h => h
    apply Exists.intro
    apply And.intro
    · apply yr_run; rfl; intro w' hw'; go_simp; (try with_reducible rfl)
    simp only [Act.put, stA_, st0_, st1_]
    apply wpR_next 4 (some 18)
    · rfl
    · rfl
    · kernel_rfl
    · kernel_rfl
    · kernel_rfl
    · first | exact fun _ _ _ _ h => Exit.noConfusion h.1 | exact fun _ _ _ _ h => h
    apply Exists.intro
    apply And.intro
    · apply yr_run; rfl; intro w' hw'; go_simp; (try with_reducible rfl)
    simp only [Act.put, stA_, st0_, st1_]
    apply wpR_next 5 (some 19)
    · rfl
    · rfl
    · kernel_rfl
    · kernel_rfl
    · kernel_rfl
    · first | exact fun _ _ _ _ h => Exit.noConfusion h.1 | exact fun _ _ _ _ h => h
    apply Exists.intro
    apply And.intro
    · apply yr_run; rfl; intro w' hw'; go_simp; (try with_reducible rfl)
    simp only [Act.put, stA_, st0_, st1_]
    apply wpR_next 8 (some 22)
    · rfl
    · rfl
    · kernel_rfl
    · kernel_rfl
    · kernel_rfl
    · first | exact fun _ _ _ _ h => Exit.noConfusion h.1 | exact fun _ _ _ _ h => h
    apply Exists.intro
    apply And.intro
    · apply yr_run; rfl; intro w' hw'; go_simp; (try with_reducible rfl)
    simp only [Act.put, stA_, st0_, st1_]
    apply wpR_next 9 (some 23)
    · rfl
    · rfl
    · kernel_rfl
    · kernel_rfl
    · kernel_rfl
    · first | exact fun _ _ _ _ h => Exit.noConfusion h.1 | exact fun _ _ _ _ h => h
    apply Exists.intro
    apply And.intro
    · apply yr_run; rfl; intro w' hw'; go_simp; (try with_reducible rfl)
    simp only [Act.put, stA_, st0_, st1_]
    apply wpR_next 10 (some 24)
    · rfl
    · rfl
    · kernel_rfl
    · kernel_rfl
    · kernel_rfl
    · first | exact fun _ _ _ _ h => Exit.noConfusion h.1 | exact fun _ _ _ _ h => h
    apply Exists.intro
    apply And.intro
    · apply yr_run; rfl; intro w' hw'; go_simp; (try with_reducible rfl)
    simp only [Act.put, stA_, st0_, st1_]
    refine wpR_one 6 (by kernel_rfl) ?_
    apply at_run 6 (some 20)
    · rfl
    · rfl
    · rfl
    intro w' hw'
    have RR_0_2 := Lib.hid (Ow.up R9.out (hw'))
    have E_0_2 := Lib.hid (Ext.trans EX9.out (hw'))
    refine ⟨.slice (some ⟨w'.heap.size, 0, none⟩) 1 1, w'.alloc (.cells (#[.int .u8 (q : Int)]) 5), exec_buildSlice 23 5 1 #[(0, .tmp 19)] (by rfl) Try.underlying23 _ (by kernel_rfl), Kept.of_below (below1 _ _), ?_⟩
    have NE_R_S_0_1 : RowKit.Hid (some w'.heap.size ≠ _) := Lib.hid (Ow.ne_ RR_0_2.out (Nat.le_refl _))
    have RR_0_3 := Lib.hid (Ow.up RR_0_2.out (below1 w' (.cells (#[.int .u8 (q : Int)]) 5)))
    have E_0_3 := Lib.hid (Ext.trans E_0_2.out (below1 w' (.cells (#[.int .u8 (q : Int)]) 5)))
    have US_n0_1 : RowKit.Hid (RdS (w'.alloc (.cells (#[.int .u8 (q : Int)]) 5)) (w'.alloc (.cells (#[.int .u8 (q : Int)]) 5)).heap.size 1 (some ⟨w'.heap.size, 0, none⟩) 1 1 (rowsV f8 [q])) := Lib.hid (RdS.of_whole8 (Whole.new_ _ _ _) rfl)
    have hkk : Kept (From_ B0) w2.drew (w'.alloc (.cells (#[.int .u8 (q : Int)]) 5)) := (Kept.of_ext hw').trans (Kept.of_below (below1 _ _))
    obtain ⟨v0_4, gv0_4⟩ : ∃ x, w'.alloc (.cells (#[.int .u8 (q : Int)]) 5) = x := ⟨_, rfl⟩
    rw [gv0_4] at RR_0_3 US_n0_1 E_0_3 hkk ⊢
    have ldt0_5 := fun w'' (h : Kept (From_ B0) v0_4 w'') => lC2 w'' (hkk.trans h)
    have ldt0_6 := fun w'' (h : Kept (From_ B0) v0_4 w'') => lC3 w'' (hkk.trans h)
    have ldt0_7 := fun w'' (h : Kept (From_ B0) v0_4 w'') => lC4 w'' (hkk.trans h)
    clear lC2 lC3 lC4
    clear gv0_4 hkk
    obtain ⟨g0_1, gg0_1⟩ : ∃ x, w'.heap.size = x := ⟨_, rfl⟩
    rw [gg0_1] at US_n0_1 NE_R_S_0_1 ⊢
    clear gg0_1 hw'
    have NF_NE_R_S_0_1 : RowKit.Hid (∀ a, (some (⟨g0_1, 0, none⟩ : Addr)) = some a → 0 < 1 → some a.block ≠ _) := Lib.hid (fun a ha _ => by obtain rfl := Option.some.inj ha; exact NE_R_S_0_1.out)
    try simp only [Act.put, stA_, st0_, st1_]
    refine wpR_one 7 (by kernel_rfl) ?_
    apply at_run 7 (some 21)
    · rfl
    · rfl
    · rfl
    intro w' hw'
    have RR_0_9 := Lib.hid (Ow.up RR_0_3.out (hw'))
    have US_0_9 := Lib.hid (RdS.bl US_n0_1.out (hw'))
    have E_0_9 := Lib.hid (Ext.trans E_0_3.out (hw'))
    obtain ⟨vv, w'', hrun, ho, hb, hg, hbk⟩ := Ow.app2 (P := Try.prog) 23 23 5 i0 _ 1 1 _ Try.underlying23 hi hz0 hz1 hz2 rfl (by decide) _ _ _ RR_0_9.out _ _ _ _ _ (US_0_9.out) (f8_all [q]) (by unfold maxLen; omega) (by omega)
    refine ⟨vv, w'', exec_append (by rfl) (by rfl) (by rfl) hrun, Kept.of_from hb, ?_⟩
    have US_0_8 := Lib.hid (RdS.grown US_0_9.out hg NF_NE_R_S_0_1.out)
    have NE_R_S_0_8 : RowKit.Hid (∀ a, (some (⟨g0_1, 0, none⟩ : Addr)) = some a → 0 < 1 → some a.block ≠ _) := Lib.hid (fun a ha hn => Ow.ne2 (NF_NE_R_S_0_1.out a ha hn) (US_0_9.out.low a ha hn) hbk)
    have E_0_8 : RowKit.Hid (Ext w1 w'') := Lib.hid ho.below
    have hkk : Kept (From_ B0) v0_4 w'' := (Kept.of_ext hw').trans (Kept.of_from hb)
    obtain ⟨AA0_8, cc0_8, rfl, hrr⟩ := ho.rds
    have RR_0_8 := Lib.hid ho
    clear hrr
    obtain ⟨z0_8, gz0_8⟩ : ∃ x, w'' = x := ⟨_, rfl⟩
    rw [gz0_8] at RR_0_8 US_0_8 E_0_8 hkk ⊢
    have ldt0_10 := fun w'' (h : Kept (From_ B0) z0_8 w'') => ldt0_5 w'' (hkk.trans h)
    have ldt0_11 := fun w'' (h : Kept (From_ B0) z0_8 w'') => ldt0_6 w'' (hkk.trans h)
    have ldt0_12 := fun w'' (h : Kept (From_ B0) z0_8 w'') => ldt0_7 w'' (hkk.trans h)
    clear ldt0_5 ldt0_6 ldt0_7
    clear hkk hrun ho hb hg hbk gz0_8 hw'
    try simp only [Act.put, stA_, st0_, st1_]
    refine wpR_one 11 (by kernel_rfl) ?_
    apply at_call 11 (some 25)
    · rfl
    · rfl
    · rfl
    · intro w'; go_simp; first | done | exact ⟨rfl, rfl⟩ | with_reducible rfl
    intro w' hw'
    have RR_0_14 := Lib.hid (Ow.up RR_0_8.out (hw'))
    have US_0_14 := Lib.hid (RdS.bl US_0_8.out (hw'))
    have E_0_14 := Lib.hid (Ext.trans E_0_8.out (hw'))
    refine (oname_4 a2 a3 _).mono ?_
    rintro e w'' ⟨A3, c3, rfl, hr3, hn3, -, hb⟩
    have NE_R_N_0_13 : RowKit.Hid (∀ a, A3 = some a → 0 < 4 → some a.block ≠ _) := Lib.hid (fun a ha hn e => by have h1 := (RR_0_14.out.own.lt _ e.symm).2; have h2 := hn3 a ha hn; omega)
    have RR_0_15 := Lib.hid (Ow.up RR_0_14.out (hb))
    have US_0_15 := Lib.hid (RdS.bl US_0_14.out (hb))
    have E_0_15 := Lib.hid (Ext.trans E_0_14.out (hb))
    have UN_0_13 := Lib.hid hr3
    clear hr3 hn3
    have hkk : Kept (From_ B0) z0_8 w'' := (Kept.of_ext hw').trans (Kept.of_below hb)
    refine ⟨_, rfl, Kept.of_below hb, ?_⟩
    obtain ⟨z0_13, gz0_13⟩ : ∃ x, w'' = x := ⟨_, rfl⟩
    rw [gz0_13] at RR_0_15 US_0_15 UN_0_13 E_0_15 hkk ⊢
    have ldt0_16 := fun w'' (h : Kept (From_ B0) z0_13 w'') => ldt0_10 w'' (hkk.trans h)
    have ldt0_17 := fun w'' (h : Kept (From_ B0) z0_13 w'') => ldt0_11 w'' (hkk.trans h)
    have ldt0_18 := fun w'' (h : Kept (From_ B0) z0_13 w'') => ldt0_12 w'' (hkk.trans h)
    clear ldt0_10 ldt0_11 ldt0_12
    clear hkk hb gz0_13 hw'
    try simp only [Act.put, stA_, st0_, st1_]
    refine wpR_one 12 (by kernel_rfl) ?_
    apply at_run 12 (some 26)
    · rfl
    · rfl
    · rfl
    intro w' hw'
    have RR_0_20 := Lib.hid (Ow.up RR_0_15.out (hw'))
    have US_0_20 := Lib.hid (RdS.bl US_0_15.out (hw'))
    have UN_0_20 := Lib.hid (RdS.bl UN_0_13.out (hw'))
    have E_0_20 := Lib.hid (Ext.trans E_0_15.out (hw'))
    obtain ⟨vv, w'', hrun, ho, hb, hg, hbk⟩ := Ow.app2 (P := Try.prog) 23 23 5 i0 _ 1 1 _ Try.underlying23 hi hz0 hz1 hz2 rfl (by decide) _ _ _ RR_0_20.out _ _ _ _ _ (UN_0_20.out) (f8_all _) (by unfold maxLen; omega) (by omega)
    refine ⟨vv, w'', exec_append (by rfl) (by rfl) (by rfl) hrun, Kept.of_from hb, ?_⟩
    have US_0_19 := Lib.hid (RdS.grown US_0_20.out hg NE_R_S_0_8.out)
    have NE_R_S_0_19 : RowKit.Hid (∀ a, (some (⟨g0_1, 0, none⟩ : Addr)) = some a → 0 < 1 → some a.block ≠ _) := Lib.hid (fun a ha hn => Ow.ne2 (NE_R_S_0_8.out a ha hn) (US_0_20.out.low a ha hn) hbk)
    have UN_0_19 := Lib.hid (RdS.grown UN_0_20.out hg NE_R_N_0_13.out)
    have NE_R_N_0_19 : RowKit.Hid (∀ a, A3 = some a → 0 < 4 → some a.block ≠ _) := Lib.hid (fun a ha hn => Ow.ne2 (NE_R_N_0_13.out a ha hn) (UN_0_20.out.low a ha hn) hbk)
    have E_0_19 : RowKit.Hid (Ext w1 w'') := Lib.hid ho.below
    have hkk : Kept (From_ B0) z0_13 w'' := (Kept.of_ext hw').trans (Kept.of_from hb)
    obtain ⟨AA0_19, cc0_19, rfl, hrr⟩ := ho.rds
    have RR_0_19 := Lib.hid ho
    clear hrr
    obtain ⟨z0_19, gz0_19⟩ : ∃ x, w'' = x := ⟨_, rfl⟩
    rw [gz0_19] at RR_0_19 US_0_19 UN_0_19 E_0_19 hkk ⊢
    have ldt0_21 := fun w'' (h : Kept (From_ B0) z0_19 w'') => ldt0_16 w'' (hkk.trans h)
    have ldt0_22 := fun w'' (h : Kept (From_ B0) z0_19 w'') => ldt0_17 w'' (hkk.trans h)
    have ldt0_23 := fun w'' (h : Kept (From_ B0) z0_19 w'') => ldt0_18 w'' (hkk.trans h)
    clear ldt0_16 ldt0_17 ldt0_18
    clear hkk hrun ho hb hg hbk gz0_19 hw'
    try simp only [Act.put, stA_, st0_, st1_]
    apply wpR_next 13 (some 2)
    · rfl
    · rfl
    · kernel_rfl
    · kernel_rfl
    · kernel_rfl
    · first | exact fun _ _ _ _ h => Exit.noConfusion h.1 | exact fun _ _ _ _ h => h
    apply Exists.intro
    apply And.intro
    · apply yr_run; rfl; intro w' hw'; go_simp; (try with_reducible rfl)
    simp only [Act.put, stA_, st0_, st1_]
    refine wpR_done (by kernel_rfl) ?_ _
    intro wE hwE
    skip
    have ho := (RR_0_19.out.up hwE)
    rw [show rowsV f8 (idB (a0, a1)) ++ rowsV f8 [q] ++ rowsV f8 (idB (a2, a3)) = rowsV f8 (idB (a0, a1) ++ (q :: idB (a2, a3))) from by rw [List.append_assoc, rowsV_app]; rfl, ← HB0.out] at ho
    obtain ⟨A9, c9, e9, hG⟩ := gives8_ow (L := idB (a0, a1) ++ (q :: idB (a2, a3))) rfl ho
    rw [← HL.out] at e9 hG
    have HG := Lib.hid (Gives8.from_ hG HB1.out)
    have HE := Lib.hid e9
    clear ho hG hwE e9 ldt0_21 ldt0_22 ldt0_23
    go_wp2
    go_ret
    exact HE.out ▸ HG.out
end Go.Proofs.Ytinfbaflkjghhaa
