/- Several texts in one. -/
import Derived.Test.YtinfbaflkjghhaaSAA
import Derived.Test.YtinfbaflkjghhaaSAB
import Derived.Deep.MidRow
import Derived.Laws.RangeString
import Derived.Laws.RangeAny
import Derived.LoopTactic
/- Out of XDg2, XPk16 -/
set_option linter.unusedSimpArgs false
set_option linter.unusedVariables false
namespace Go.Proofs.Ytinfbaflkjghhaa
open Go.RowKit
theorem ret_whole {P : Program} {fn : Func} {R : Ending → World → Prop} {a : Act} {w : World} {p : Tmp} {t : TypeId} (h : fn.results = #[.cell p t]) (g : Nat) {t' : TypeId} {cs : List Value} {d : TypeDesc}
    (hp : a.tmps.getD p undef = .pointer (some ⟨g, 0, none⟩)) (hW : Whole w g t' cs) (hu : P.underlying t = some d) (hd : d.isRow = true) (hi : (P.info? t).map (·.size) = some cs.length)
    (hdf : a.defers = []) (hR : R (.returned (.agg cs.toArray)) w) : bodyPost P fn R .ret a w := by
  refine bodyPost_ret (v := .agg cs.toArray) ?_ hdf hR
  have hl := run_loadVar_mid (P := P) w g 0 t cs d (fun j v hv => by
    have := hW.cell hv
    simpa using this) hu hd hi
  have hp2 := hp
  rw [Array.getD_eq_getD_getElem?] at hp2
  simp [results, h, hp2, asAddr, Sem.run_bind, Result.andThen, hl]
theorem byte_lt {L : List Nat} (h : ∀ b ∈ L, b < 256) : c1 L < 256 := by
  cases L with
  | nil => show 0 < 256; omega
  | cons a l => exact h a (by simp)
theorem i64_or_16 (x y : Nat) (hx : x < 256) (hy : y < 65536) : bits .or .i64 ((x : Int) * 65536) (y : Int) = ((x * 65536 + y : Nat) : Int) := by
  have e : ((x : Int) * 65536) = ((2 ^ 16 * x : Nat) : Int) := by omega
  rw [e]
  show IntKind.i64.wrap ((BitVec.ofInt 64 ((2 ^ 16 * x : Nat) : Int) ||| BitVec.ofInt 64 (y : Int)).toNat : Int) = _
  rw [BitVec.toNat_or, ofInt_64 _ (by omega), ofInt_64 y (by omega), ← Nat.two_pow_add_eq_or_of_lt (by omega) x, IntWalk.i64_in _ (by omega)]
  omega
theorem i64_or_8 (x y : Nat) (hx : x < 16777216) (hy : y < 256) : bits .or .i64 ((x * 256 : Nat) : Int) (y : Int) = ((x * 256 + y : Nat) : Int) := by
  have e : ((x * 256 : Nat) : Int) = ((2 ^ 8 * x : Nat) : Int) := by omega
  rw [e]
  show IntKind.i64.wrap ((BitVec.ofInt 64 ((2 ^ 8 * x : Nat) : Int) ||| BitVec.ofInt 64 (y : Int)).toNat : Int) = _
  rw [BitVec.toNat_or, ofInt_64 _ (by omega), ofInt_64 y (by omega), ← Nat.two_pow_add_eq_or_of_lt (by omega) x, IntWalk.i64_in _ (by omega)]
  omega
theorem ret_whole3 {P : Program} {fn : Func} {R : Ending → World → Prop} {a : Act} {w : World} {p u u2 : Tmp} {t : TypeId} (h : fn.results = #[.cell p t, .tmp u, .tmp u2]) (g : Nat) {t' : TypeId} {cs : List Value} {d : TypeDesc} {v v2 : Value}
    (hp : a.tmps.getD p undef = .pointer (some ⟨g, 0, none⟩)) (hv : a.tmps.getD u undef = v) (hv2 : a.tmps.getD u2 undef = v2) (hW : Whole w g t' cs) (hu : P.underlying t = some d) (hd : d.isRow = true) (hi : (P.info? t).map (·.size) = some cs.length)
    (hdf : a.defers = []) (hR : R (.returned (.tuple #[.agg cs.toArray, v, v2])) w) : bodyPost P fn R .ret a w := by
  refine bodyPost_ret (v := .tuple #[.agg cs.toArray, v, v2]) ?_ hdf hR
  have hl := run_loadVar_mid (P := P) w g 0 t cs d (fun j v hv => by
    have := hW.cell hv
    simpa using this) hu hd hi
  have hp2 := hp
  have hv3 := hv
  have hv4 := hv2
  rw [Array.getD_eq_getD_getElem?] at hp2 hv3 hv4
  simp [results, h, hp2, hv3, hv4, asAddr, Sem.run_bind, Result.andThen, hl]
set_option maxRecDepth 100000 in
set_option maxHeartbeats 4000000 in
theorem first_any (A : Option Addr) (n c : Nat) (b0 b1 b2 b3 : Nat) (R : List Nat) (w : World) (h : RdS w w.heap.size 1 A n c (rowsV f8 (b0 :: b1 :: b2 :: b3 :: R))) (h0 : b0 < 256) (h1 : b1 < 256) (h2 : b2 < 256) (h3 : b3 < 256) :
    Calls Try.prog 108 #[.slice A n c] w fun e w' => e = .returned (.agg #[.int .i64 (b0 : Int), .int .i64 (65536 * (b1 : Int) + 256 * (b2 : Int) + (b3 : Int))]) ∧ Below w.heap.size w w' := by
  have hl := h.rlen f8_len (by decide)
  simp only [List.length_cons] at hl
  obtain ⟨bb, off, rfl, hbb, hp⟩ := byte_at h (by omega)
  have q0 := hp 0 b0 rfl
  have q1 := hp 1 b1 rfl
  have q2 := hp 2 b2 rfl
  have q3 := hp 3 b3 rfl
  rw [Nat.add_zero] at q0
  have hE : Ext w (w.alloc (.cells #[.int .i64 0, .int .i64 0] 47)) := below1 w _
  have HX : RowKit.Hid (Whole (w.alloc (.cells #[.int .i64 0, .int .i64 0] 47)) w.heap.size 47 [.int .i64 0, .int .i64 0]) := Lib.hid (Whole.new_ _ _ [_, _])
  have Q0 := Lib.hid (hE.cell q0)
  have Q1 := Lib.hid (hE.cell q1)
  have Q2 := Lib.hid (hE.cell q2)
  have Q3 := Lib.hid (hE.cell q3)
  have HE := Lib.hid hE
  have hm0 : 0 < n := by omega
  have hm1 : 1 < n := by omega
  have hm2 : 2 < n := by omega
  have hm3 : 3 < n := by omega
  have hn0 : (0 : Int) < (n : Int) := by omega
  have hn1 : (1 : Int) < (n : Int) := by omega
  have hn2 : (2 : Int) < (n : Int) := by omega
  have hn3 : (3 : Int) < (n : Int) := by omega
  have hd1 : decide ((n : Int) < 4) = false := decide_eq_false (by omega)
  have hd2 : decide (n < 4) = false := decide_eq_false (by omega)
  have w0 : IntKind.i64.wrap (b0 : Int) = (b0 : Int) := IntWalk.i64_in _ (by omega)
  have w1 : IntKind.i64.wrap (b1 : Int) = (b1 : Int) := IntWalk.i64_in _ (by omega)
  have w2 : IntKind.i64.wrap (b2 : Int) = (b2 : Int) := IntWalk.i64_in _ (by omega)
  have w3 : IntKind.i64.wrap (b3 : Int) = (b3 : Int) := IntWalk.i64_in _ (by omega)
  have w4 : IntKind.i64.wrap ((b1 : Int) * 65536) = (b1 : Int) * 65536 := IntWalk.i64_in _ (by omega)
  obtain ⟨x2, gx2⟩ : ∃ z, b2 * 256 = z := ⟨_, rfl⟩
  have w5 : IntKind.i64.wrap ((b2 : Int) * 256) = (x2 : Int) := by rw [IntWalk.i64_in _ (by omega)]; omega
  have o1 := i64_or_16 b1 x2 h1 (by omega)
  obtain ⟨x3, gx3⟩ : ∃ z, b1 * 256 + b2 = z := ⟨_, rfl⟩
  have o2 := i64_or_8 x3 b3 (by omega) h3
  obtain ⟨x4, gx4⟩ : ∃ z, b1 * 65536 + x2 = z := ⟨_, rfl⟩
  rw [show x3 * 256 = x4 by omega] at o2
  rw [gx4] at o1
  obtain ⟨x5, gx5⟩ : ∃ z, x4 + b3 = z := ⟨_, rfl⟩
  rw [gx5] at o2
  have Hx5 : RowKit.Hid (65536 * (b1 : Int) + 256 * (b2 : Int) + (b3 : Int) = (x5 : Int)) := Lib.hid (by omega)
  rw [Hx5.out]
  clear h hl hp q0 q1 q2 q3 hE gx2 gx3 gx4 gx5 hbb
  go_enter Try.func108, Try.ntmps108
  go_upto_region 3 with fail
  obtain ⟨w8, gw8⟩ : ∃ z, w.alloc (.cells #[.int .i64 0, .int .i64 0] 47) = z := ⟨_, rfl⟩
  obtain ⟨b9, gb9⟩ : ∃ z, w.heap.size = z := ⟨_, rfl⟩
  rw [gw8] at HX Q0 Q1 Q2 Q3 HE ⊢
  rw [gb9] at HX ⊢
  have Gb9 := Lib.hid gb9
  clear gw8 gb9 hd1 hd2
  have ld0 : ∀ w', Kept Nil_ w8.drew w' → w'.cell? ⟨bb, off, none⟩ = some (.int .u8 (b0 : Int)) := fun w' h => h.nil_cell (show w8.drew.cell? _ = _ from Q0.out)
  have ld1 : ∀ w', Kept Nil_ w8.drew w' → w'.cell? ⟨bb, off + 1, none⟩ = some (.int .u8 (b1 : Int)) := fun w' h => h.nil_cell (show w8.drew.cell? _ = _ from Q1.out)
  have ld2 : ∀ w', Kept Nil_ w8.drew w' → w'.cell? ⟨bb, off + 2, none⟩ = some (.int .u8 (b2 : Int)) := fun w' h => h.nil_cell (show w8.drew.cell? _ = _ from Q2.out)
  have ld3 : ∀ w', Kept Nil_ w8.drew w' → w'.cell? ⟨bb, off + 3, none⟩ = some (.int .u8 (b3 : Int)) := fun w' h => h.nil_cell (show w8.drew.cell? _ = _ from Q3.out)
  refine wp_region_tail (Nil_) [21] (by kernel_rfl) ?_
  apply wpT_next 0 (some 7) (by kernel_rfl)
  · rfl
  · rfl
  · kernel_rfl
  · kernel_rfl
  · kernel_rfl
  · exact fun _ _ _ _ h => h
  apply Exists.intro
  apply And.intro
  · apply yr_run; rfl; intro w' hw'; go_simp; (try with_reducible rfl)
  simp only [Act.put, stA_, st0_, st1_]
  apply wpT_next 1 (some 8) (by kernel_rfl)
  · rfl
  · rfl
  · kernel_rfl
  · kernel_rfl
  · kernel_rfl
  · exact fun _ _ _ _ h => h
  apply Exists.intro
  apply And.intro
  · apply yr_run; rfl; intro w' hw'; go_simp; (try with_reducible rfl)
  simp only [Act.put, stA_, st0_, st1_]
  apply wpT_next 2 (some 9) (by kernel_rfl)
  · rfl
  · rfl
  · kernel_rfl
  · kernel_rfl
  · kernel_rfl
  · exact fun _ _ _ _ h => h
  apply Exists.intro
  apply And.intro
  · apply yr_run; rfl; intro w' hw'; go_simp; (try with_reducible rfl)
  simp only [Act.put, stA_, st0_, st1_]
  apply wpT_next 3 (some 10) (by kernel_rfl)
  · rfl
  · rfl
  · kernel_rfl
  · kernel_rfl
  · kernel_rfl
  · exact fun _ _ _ _ h => h
  apply Exists.intro
  apply And.intro
  · apply yr_run; rfl; intro w' hw'; go_simp; (try with_reducible rfl)
  simp only [Act.put, stA_, st0_, st1_]
  apply wpT_next 4 (some 11) (by kernel_rfl)
  · rfl
  · rfl
  · kernel_rfl
  · kernel_rfl
  · kernel_rfl
  · exact fun _ _ _ _ h => h
  apply Exists.intro
  apply And.intro
  · apply yr_run; rfl; intro w' hw'; go_simp; (try with_reducible rfl)
  simp only [Act.put, stA_, st0_, st1_]
  apply wpT_next 5 (some 12) (by kernel_rfl)
  · rfl
  · rfl
  · kernel_rfl
  · kernel_rfl
  · kernel_rfl
  · exact fun _ _ _ _ h => h
  apply Exists.intro
  apply And.intro
  · apply yr_run; rfl; intro w' hw'; go_simp; (try with_reducible rfl)
  simp only [Act.put, stA_, st0_, st1_]
  apply wpT_next 6 (some 13) (by kernel_rfl)
  · rfl
  · rfl
  · kernel_rfl
  · kernel_rfl
  · kernel_rfl
  · exact fun _ _ _ _ h => h
  apply Exists.intro
  apply And.intro
  · apply yr_run; rfl; intro w' hw'; go_simp; (try with_reducible rfl)
  simp only [Act.put, stA_, st0_, st1_]
  apply wpT_next 7 (some 14) (by kernel_rfl)
  · rfl
  · rfl
  · kernel_rfl
  · kernel_rfl
  · kernel_rfl
  · exact fun _ _ _ _ h => h
  apply Exists.intro
  apply And.intro
  · apply yr_run; rfl; intro w' hw'; go_simp; (try with_reducible rfl)
  simp only [Act.put, stA_, st0_, st1_]
  apply wpT_next 8 (some 15) (by kernel_rfl)
  · rfl
  · rfl
  · kernel_rfl
  · kernel_rfl
  · kernel_rfl
  · exact fun _ _ _ _ h => h
  apply Exists.intro
  apply And.intro
  · apply yr_run; rfl; intro w' hw'; go_simp; (try with_reducible rfl)
  simp only [Act.put, stA_, st0_, st1_]
  apply wpT_next 9 (some 16) (by kernel_rfl)
  · rfl
  · rfl
  · kernel_rfl
  · kernel_rfl
  · kernel_rfl
  · exact fun _ _ _ _ h => h
  apply Exists.intro
  apply And.intro
  · apply yr_run; rfl; intro w' hw'; go_simp; (try with_reducible rfl)
  simp only [Act.put, stA_, st0_, st1_]
  apply wpT_next 10 (some 17) (by kernel_rfl)
  · rfl
  · rfl
  · kernel_rfl
  · kernel_rfl
  · kernel_rfl
  · exact fun _ _ _ _ h => h
  apply Exists.intro
  apply And.intro
  · apply yr_run; rfl; intro w' hw'; go_simp; (try with_reducible rfl)
  simp only [Act.put, stA_, st0_, st1_]
  apply wpT_next 11 (some 18) (by kernel_rfl)
  · rfl
  · rfl
  · kernel_rfl
  · kernel_rfl
  · kernel_rfl
  · exact fun _ _ _ _ h => h
  apply Exists.intro
  apply And.intro
  · apply yr_run; rfl; intro w' hw'; go_simp; (try with_reducible rfl)
  simp only [Act.put, stA_, st0_, st1_]
  apply wpT_next 12 (some 19) (by kernel_rfl)
  · rfl
  · rfl
  · kernel_rfl
  · kernel_rfl
  · kernel_rfl
  · exact fun _ _ _ _ h => h
  apply Exists.intro
  apply And.intro
  · apply yr_run; rfl; intro w' hw'; go_simp; (try with_reducible rfl)
  simp only [Act.put, stA_, st0_, st1_]
  apply wpT_next 13 (some 20) (by kernel_rfl)
  · rfl
  · rfl
  · kernel_rfl
  · kernel_rfl
  · kernel_rfl
  · exact fun _ _ _ _ h => h
  apply Exists.intro
  apply And.intro
  · apply yr_run; rfl; intro w' hw'; go_simp; (try with_reducible rfl)
  simp only [Act.put, stA_, st0_, st1_]
  apply wpT_next 14 (some 21) (by kernel_rfl)
  · rfl
  · rfl
  · kernel_rfl
  · kernel_rfl
  · kernel_rfl
  · exact fun _ _ _ _ h => h
  apply Exists.intro
  apply And.intro
  · apply yr_run; rfl; intro w' hw'; go_simp; (try with_reducible rfl)
  simp only [Act.put, stA_, st0_, st1_]
  apply wpT_next 15 (some 22) (by kernel_rfl)
  · rfl
  · rfl
  · kernel_rfl
  · kernel_rfl
  · kernel_rfl
  · exact fun _ _ _ _ h => h
  apply Exists.intro
  apply And.intro
  · apply yr_run; rfl; intro w' hw'; go_simp; (try with_reducible rfl)
  simp only [Act.put, stA_, st0_, st1_]
  apply wpT_next 16 (some 23) (by kernel_rfl)
  · rfl
  · rfl
  · kernel_rfl
  · kernel_rfl
  · kernel_rfl
  · exact fun _ _ _ _ h => h
  apply Exists.intro
  apply And.intro
  · apply yr_run; rfl; intro w' hw'; go_simp; (try with_reducible rfl)
  simp only [Act.put, stA_, st0_, st1_]
  apply wpT_next 17 (some 24) (by kernel_rfl)
  · rfl
  · rfl
  · kernel_rfl
  · kernel_rfl
  · kernel_rfl
  · exact fun _ _ _ _ h => h
  apply Exists.intro
  apply And.intro
  · apply yr_run; rfl; intro w' hw'; go_simp; (try with_reducible rfl)
  simp only [Act.put, stA_, st0_, st1_]
  apply wpT_next 18 (some 25) (by kernel_rfl)
  · rfl
  · rfl
  · kernel_rfl
  · kernel_rfl
  · kernel_rfl
  · exact fun _ _ _ _ h => h
  apply Exists.intro
  apply And.intro
  · apply yr_run; rfl; intro w' hw'; go_simp; (try with_reducible rfl)
  simp only [Act.put, stA_, st0_, st1_]
  apply wpT_next 19 (some 26) (by kernel_rfl)
  · rfl
  · rfl
  · kernel_rfl
  · kernel_rfl
  · kernel_rfl
  · exact fun _ _ _ _ h => h
  apply Exists.intro
  apply And.intro
  · apply yr_run; rfl; intro w' hw'; go_simp; (try with_reducible rfl)
  simp only [Act.put, stA_, st0_, st1_]
  apply wpT_next 20 (some 27) (by kernel_rfl)
  · rfl
  · rfl
  · kernel_rfl
  · kernel_rfl
  · kernel_rfl
  · exact fun _ _ _ _ h => h
  apply Exists.intro
  apply And.intro
  · apply yr_run; rfl; intro w' hw'; go_simp; (try with_reducible rfl)
  simp only [Act.put, stA_, st0_, st1_]
  apply wpT_last 21
  · rfl
  · rfl
  · kernel_rfl
  · rfl
  · decide
  intro w' hw'
  refine ⟨w'.setRow b9 #[.int .i64 (b0 : Int), .int .i64 (x5 : Int)], store_row_run 47 (.tmp 2) (.tmp 27) rfl b9 rfl [.int .i64 (b0 : Int), .int .i64 (x5 : Int)] rfl 47 [.int .i64 0, .int .i64 0] (HX.out.bl (Ext.trans (below_drewN w8.heap.size w8 1) hw')) (by kernel_rfl) rfl (by simp [Value.oneCell']), ?_⟩
  have HX8 : RowKit.Hid (Whole (w'.setRow b9 #[.int .i64 (b0 : Int), .int .i64 (x5 : Int)]) b9 47 [.int .i64 (b0 : Int), .int .i64 (x5 : Int)]) := Lib.hid (Whole.row (HX.out.bl (Ext.trans (below_drewN w8.heap.size w8 1) hw')) [_, _])
  have HB8 : RowKit.Hid (Below w.heap.size w (w'.setRow b9 #[.int .i64 (b0 : Int), .int .i64 (x5 : Int)])) := Lib.hid (below_row (Ext.trans HE.out (Ext.trans (below_drewN w8.heap.size w8 1) hw')) (Nat.le_of_eq Gb9.out) _)
  clear hw' 
  try simp only [Act.put, stA_, st0_, st1_]
  refine wpT_done (by kernel_rfl) ?_ _
  intro w10 hw10
  have HX9 := Lib.hid (HX8.out.bl hw10)
  have HB9 := Lib.hid (bel_bl HB8.out hw10)
  clear hw10
  go_wp2
  exact ret_whole rfl b9 rfl HX9.out Try.underlying47 rfl (by kernel_rfl) rfl ⟨rfl, HB9.out⟩
end Go.Proofs.Ytinfbaflkjghhaa
/- ident.Take of four bytes. -/
namespace Go.Proofs.Ytinfbaflkjghhaa
open Go.RowKit
theorem kept_setRow {S : Nat → Prop} (w : World) (g : Nat) (hS : S g) (cs : Array Value) : Kept S w (w.setRow g cs) := ⟨rfl, rfl, rfl, by simp [World.setRow], fun i _ hn => setRow_other w g i cs (fun e => hn (by rw [e]; exact hS))⟩
set_option maxRecDepth 100000 in
set_option maxHeartbeats 4000000 in
theorem idtake_any (A : Option Addr) (c : Nat) (b0 b1 b2 b3 : Nat) (R : List Nat) (w : World) (h : RdS w w.heap.size 1 A (b0 :: b1 :: b2 :: b3 :: R).length c (rowsV f8 (b0 :: b1 :: b2 :: b3 :: R))) (h0 : b0 < 256) (h1 : b1 < 256) (h2 : b2 < 256) (h3 : b3 < 256) (hn : (b0 :: b1 :: b2 :: b3 :: R).length ≤ 100000) :
    Calls Try.prog 104 #[.slice A (b0 :: b1 :: b2 :: b3 :: R).length c] w fun e w' => ∃ A' n' c' ok, e = .returned (.tuple #[.agg #[.int .i64 (tk4 (b0 :: b1 :: b2 :: b3 :: R)).1, .int .i64 (tk4 (b0 :: b1 :: b2 :: b3 :: R)).2], .slice A' n' c', .bool ok]) ∧ Below w.heap.size w w' := by
  have HF := Lib.hid (fun W h => first_any A (b0 :: b1 :: b2 :: b3 :: R).length c b0 b1 b2 b3 R W h h0 h1 h2 h3)
  have hlow := h.low_ (k := 4) (by simp)
  have hdl : ((b0 :: b1 :: b2 :: b3 :: R).drop 4).length = (b0 :: b1 :: b2 :: b3 :: R).length - 4 := List.length_drop
  rw [show (rowsV f8 (b0 :: b1 :: b2 :: b3 :: R)).drop (4 * 1) = rowsV f8 R from rfl, show (b0 :: b1 :: b2 :: b3 :: R).length - 4 = R.length from by simp] at hlow
  obtain ⟨A1, hA1⟩ : ∃ A1, (if c = 4 then A else A.map (·.add (4 * 1))) = A1 := ⟨_, rfl⟩
  rw [hA1] at hlow
  have hl : (b0 :: b1 :: b2 :: b3 :: R).length = R.length + 4 := by simp
  have HC1 := Lib.hid (fun W (hW : Ext w W) => clone8 A1 (c - 4) R W (hlow.up hW hW.size) (by omega))
  have HC2 := Lib.hid (fun W (hW : Ext w W) => clone8 A c (b0 :: b1 :: b2 :: b3 :: R) W (h.up hW hW.size) hn)
  have ht : tk4 (b0 :: b1 :: b2 :: b3 :: R) = if mayI (b0 : Int) (65536 * (b1 : Int) + 256 * (b2 : Int) + (b3 : Int)) = true then ((b0 : Int), 65536 * (b1 : Int) + 256 * (b2 : Int) + (b3 : Int)) else (0, 0) := rfl
  obtain ⟨s, gs⟩ : ∃ z : Int, (b0 : Int) = z := ⟨_, rfl⟩
  obtain ⟨k, gk⟩ : ∃ z : Int, 65536 * (b1 : Int) + 256 * (b2 : Int) + (b3 : Int) = z := ⟨_, rfl⟩
  rw [gs, gk] at HF ht
  have HR := Lib.hid h
  obtain ⟨M, gM⟩ : ∃ z, b0 :: b1 :: b2 :: b3 :: R = z := ⟨_, rfl⟩
  rw [gM] at HF HC2 ht HR hl ⊢
  obtain ⟨m, gm⟩ : ∃ z, M.length = z := ⟨_, rfl⟩
  rw [gm] at HF HC2 HR hl ⊢
  have Gm := Lib.hid gm
  obtain ⟨r, gr⟩ : ∃ z, R.length = z := ⟨_, rfl⟩
  rw [gr] at HC1 hl
  have Gr := Lib.hid gr
  have HAr := Lib.hid hA1
  have Hm4 : RowKit.Hid (4 ≤ m ∧ m - 4 = r) := Lib.hid (by omega)
  obtain ⟨my, gmy⟩ : ∃ z, mayI s k = z := ⟨_, rfl⟩
  have HMy : RowKit.Hid (∀ W, Calls Try.prog 78 #[.agg #[.int .i64 s, .int .i64 k]] W fun e w' => e = .returned (.bool my) ∧ Below W.heap.size W w') := Lib.hid (fun W => gmy ▸ may_any s k W)
  rw [gmy] at ht
  obtain ⟨⟨t1, t2⟩, gt⟩ : ∃ z, tk4 M = z := ⟨_, rfl⟩
  rw [gt] at ht ⊢
  have Ht := Lib.hid ht
  have HX0 : RowKit.Hid (Whole (w.alloc (.cells #[.int .i64 0, .int .i64 0] 47)) w.heap.size 47 [.int .i64 0, .int .i64 0]) := Lib.hid (Whole.new_ _ _ [_, _])
  have HE0 : RowKit.Hid (Ext w (w.alloc (.cells #[.int .i64 0, .int .i64 0] 47))) := Lib.hid (below1 w _)
  have HR0 := Lib.hid (HR.out.al (.cells #[.int .i64 0, .int .i64 0] 47))
  clear h hlow hdl gs gk gM gm gr hA1 hl hn gmy gt ht
  go_enter Try.func104, Try.ntmps104
  go_upto_region 1 with fail
  obtain ⟨w0, gw0⟩ : ∃ z, w.alloc (.cells #[.int .i64 0, .int .i64 0] 47) = z := ⟨_, rfl⟩
  obtain ⟨b, gb⟩ : ∃ z, w.heap.size = z := ⟨_, rfl⟩
  rw [gw0] at HX0 HE0 HR0 ⊢
  rw [gb] at HX0 ⊢
  have Gb := Lib.hid gb
  clear gw0 gb
  go_upto_region 2 with (first
    | (go_at_call 108
       refine (HF.out _ HR0.out).mono ?_
       rintro e w1 ⟨rfl, hb1⟩
       have HX1 := Lib.hid ((HX0.out.bl hb1).al (.cells #[.int .i64 s, .int .i64 k] 47))
       have HE1 : RowKit.Hid (Ext w (w1.alloc (.cells #[.int .i64 s, .int .i64 k] 47))) := Lib.hid (Ext.trans (Ext.trans HE0.out hb1) (below1 w1 _))
       have HY1 : RowKit.Hid (Whole (w1.alloc (.cells #[.int .i64 s, .int .i64 k] 47)) w1.heap.size 47 [.int .i64 s, .int .i64 k]) := Lib.hid (Whole.new_ _ _ [_, _])
       have HN1 : RowKit.Hid (w1.heap.size ≠ b) := Lib.hid (by have := (HX0.out.bl hb1).lt; omega)
       clear hb1))
  obtain ⟨w2, gw2⟩ : ∃ z, w1.alloc (.cells #[.int .i64 s, .int .i64 k] 47) = z := ⟨_, rfl⟩
  obtain ⟨b5, gb5⟩ : ∃ z, w1.heap.size = z := ⟨_, rfl⟩
  rw [gw2] at HX1 HE1 HY1 ⊢
  rw [gb5] at HY1 HN1 ⊢
  clear gw2 gb5 HX0 HE0 HR0 HF
  have d0 := HY1.out.cell (i := 0) rfl
  have d1 := HY1.out.cell (i := 1) rfl
  cases my with
  | false =>
    have ht := Ht.out
    rw [if_neg (by decide)] at ht
    injection ht with e1 e2
    subst e1 e2
    go_upto_region 3 with (first
      | (go_at_call 78
         refine (HMy.out _).mono ?_
         rintro e w3 ⟨rfl, hb3⟩
         have HX3 := Lib.hid (HX1.out.bl hb3)
         have HE3 := Lib.hid (Ext.trans HE1.out hb3)
         clear hb3 d0 d1))
    go_wp2_with (first
      | (go_at_call 36
         refine (HC2.out _ HE3.out).mono ?_
         rintro e w4 ⟨A4, c4, rfl, -, -, -, hb4⟩
         rw [Gm.out]
         have HX4 := Lib.hid (HX3.out.bl hb4)
         have HE4 : RowKit.Hid (Ext w w4) := Lib.hid (Ext.trans HE3.out hb4)
         have q0 := HX4.out.cell (i := 0) rfl
         have q1 := HX4.out.cell (i := 1) rfl
         have f0 := HX4.out.free 0
         have f1 := HX4.out.free 1
         clear hb4))
    have HXz := (HX4.out.set_ 0 (.int .i64 0)).set_ 1 (.int .i64 0)
    have HBz := ((show Below w.heap.size w w4 from HE4.out).setCell (p := ⟨b, 0, none⟩) (by show w.heap.size ≤ b; exact Nat.le_of_eq Gb.out) (.int .i64 0)).setCell (p := ⟨b, 1, none⟩) (by show w.heap.size ≤ b; exact Nat.le_of_eq Gb.out) (.int .i64 0)
    exact ret_whole3 rfl b rfl rfl rfl HXz Try.underlying47 rfl (by kernel_rfl) rfl ⟨A4, m, c4, false, rfl, HBz⟩
  | true =>
    have ht := Ht.out
    rw [if_pos rfl] at ht
    injection ht with e1 e2
    subst e1 e2
    go_upto_region 4 with (first
      | (go_at_call 78
         refine (HMy.out _).mono ?_
         rintro e w3 ⟨rfl, hb3⟩
         have HX3 := Lib.hid (HX1.out.bl hb3)
         have HE3 : RowKit.Hid (Ext w w3) := Lib.hid (Ext.trans HE1.out hb3)
         have HY3 := Lib.hid (HY1.out.bl hb3)
         clear hb3 d0 d1))
    have HDr : RowKit.Hid (Ext w3 w3.drew) := Lib.hid (below_drewN w3.heap.size w3 1)
    have ld0 : ∀ w', Kept (fun i => i = b) w3.drew w' → w'.cell? ⟨b5, 0, none⟩ = some (.int .i64 t1) := fun w' h => h.cell (HY3.out.dr.cell (i := 0) rfl) HN1.out
    have ld1 : ∀ w', Kept (fun i => i = b) w3.drew w' → w'.cell? ⟨b5, 1, none⟩ = some (.int .i64 t2) := fun w' h => h.cell (HY3.out.dr.cell (i := 1) rfl) HN1.out
    refine wp_region_reg (fun i => i = b) (by kernel_rfl) ?_
    refine opR_ 0 14 (v := ?_) ?_ ?_; rotate_left
    · intro w' hw'; go_simp; (try with_reducible rfl)
    simp only [st0_, st1_]
    refine opR_ 1 15 (v := ?_) ?_ ?_; rotate_left
    · intro w' hw'; go_simp; (try with_reducible rfl)
    simp only [st0_, st1_]
    refine opX_ 2 16 ?_
    apply Exists.intro
    apply And.intro
    · apply yr_run; rfl; intro w' hw'; exact exec_slice_low_as 23 5 (.tmp 15) (.const (.int .i64 4)) rfl Try.underlying23 (s := 1) (by kernel_rfl) rfl rfl Hm4.out.1 HAr.out Hm4.out.2 rfl
    simp only [st0_, st1_]
    apply wpR_call 3 (some 17)
    · rfl
    · rfl
    · kernel_rfl
    · rfl
    · intro w'; go_simp; first | done | exact ⟨rfl, rfl⟩ | with_reducible rfl
    intro w' hw'
    have hE := Ext.trans HDr.out hw'
    refine (HC1.out w' (Ext.trans HE3.out hE)).mono ?_
    rintro e w4 ⟨A4, c4, rfl, -, -, -, hb4⟩
    rw [Gr.out]
    refine ⟨_, rfl, Kept.of_below hb4, ?_⟩
    have HX4 := Lib.hid (HX3.out.bl (Ext.trans hE hb4))
    have HE4 : RowKit.Hid (Ext w w4) := Lib.hid (Ext.trans HE3.out (Ext.trans hE hb4))
    clear hE hb4 hw' ld0 ld1
    simp only [Act.put, stA_, st0_, st1_]
    apply wpR_store 4
    · rfl
    · rfl
    · kernel_rfl
    · rfl
    intro w' hw'
    refine ⟨w'.setRow b #[.int .i64 t1, .int .i64 t2], store_row_run 47 (.tmp 2) (.tmp 14) rfl b rfl [.int .i64 t1, .int .i64 t2] rfl 47 [.int .i64 0, .int .i64 0] (HX4.out.bl hw') (by kernel_rfl) rfl (by simp [Value.oneCell']), kept_setRow (S := fun i => i = b) w' b rfl _, ?_⟩
    have HX5 : RowKit.Hid (Whole (w'.setRow b #[.int .i64 t1, .int .i64 t2]) b 47 [.int .i64 t1, .int .i64 t2]) := Lib.hid (Whole.row (HX4.out.bl hw') [_, _])
    have HB5 : RowKit.Hid (Below w.heap.size w (w'.setRow b #[.int .i64 t1, .int .i64 t2])) := Lib.hid (below_row (Ext.trans HE4.out hw') (Nat.le_of_eq Gb.out) _)
    clear hw' 
    try simp only [Act.put, stA_, st0_, st1_]
    refine opR_ 5 3 (v := ?_) ?_ ?_; rotate_left
    · intro w' hw'; go_simp; (try with_reducible rfl)
    simp only [st0_, st1_]
    refine opR_ 6 4 (v := ?_) ?_ ?_; rotate_left
    · intro w' hw'; go_simp; (try with_reducible rfl)
    simp only [st0_, st1_]
    refine wpR_done (by kernel_rfl) ?_ _
    intro w10 hw10
    have HX9 := Lib.hid (HX5.out.bl hw10)
    have HB9 := Lib.hid (bel_bl HB5.out hw10)
    clear hw10
    go_wp2
    exact ret_whole3 rfl b rfl rfl rfl HX9.out Try.underlying47 rfl (by kernel_rfl) rfl ⟨A4, r, c4, true, rfl, HB9.out⟩
end Go.Proofs.Ytinfbaflkjghhaa
/- The document's Num. -/
namespace Go.Proofs.Ytinfbaflkjghhaa
open Go.RowKit
set_option maxRecDepth 100000 in
set_option maxHeartbeats 4000000 in
theorem rnum_any (A : Option Addr) (c : Nat) (L : List Nat) (x : Int) (w : World) (h : RdS w w.heap.size 1 A L.length c (rowsV f8 L)) (hn : L.length ≤ 900000) :
    Calls Try.prog 27 #[.slice A L.length c, .int .i64 x] w (Gives8 w (L ++ be8 x)) := by
  obtain ⟨i0, hi, hz0, hz1, hz2⟩ := info_parts_ info_u8
  obtain ⟨A1, c1, w1, hrun, how, hbw⟩ := fresh_copy (P := Try.prog) w 23 23 5 i0 _ 1 1 Try.underlying23 hi hz0 hz1 hz2 rfl (by decide) A L.length c _ h (f8_all L) (by omega) (by decide)
  have hx := wrap_u64_ x
  have hU := u64_lt x
  have e8 : L ++ be8 x = L ++ (beN 8 (u64 x)).take 8 := by
    rw [List.take_of_length_le (by rw [beN_len]; omega)]
    rfl
  rw [e8]
  obtain ⟨U, gU⟩ : ∃ U, u64 x = U := ⟨_, rfl⟩
  rw [gU] at hx hU ⊢
  have Hn : RowKit.Hid (L.length ≤ 900000) := Lib.hid hn
  have HU := Lib.hid hU
  have Hx := Lib.hid hx
  have HO1 : RowKit.Hid (Ow w w.heap.size 5 1 (.slice A1 L.length c1) L.length (rowsV f8 (L ++ (beN 8 U).take 0)) w1) := Lib.hid (by rw [List.take_zero, List.append_nil]; exact ⟨how, hbw, Nat.le_refl _, hbw.size⟩)
  have Hl8 : RowKit.Hid ((L ++ (beN 8 U).take 8).length = L.length + 8) := Lib.hid (by rw [List.length_append, List.length_take, beN_len]; rfl)
  obtain ⟨n, gn⟩ : ∃ n, L.length = n := ⟨_, rfl⟩
  rw [gn] at hrun HO1 Hn Hl8 ⊢
  clear h hn e8 gU hU hx how hbw gn hi hz0 hz1 hz2
  go_enter Try.func27, Try.ntmps27
  go_upto_region 2 with (first
    | (at_builtin
       refine wl_run (some 9) rfl (by rfl) (exec_append (by rfl) (by rfl) (by rfl) hrun) ?_))
  clear hrun
  go_wp2
  go_loopw [5, 6] (fun v si wr => ∃ (k N : Nat) (A2 : Option Addr) (c2 : Nat), k ≤ 8 ∧ si = .int .i64 (7 - (k : Int)) ∧ v = .slice A2 N c2 ∧ RowKit.Hid (N = n + k) ∧ RowKit.Hid (Ow w w.heap.size 5 1 (.slice A2 N c2) N (rowsV f8 (L ++ (beN 8 U).take k)) wr)) (fun _ si _ => (intOf si + 1).toNat)
  case atStart => exact ⟨0, n, A1, c1, by omega, rfl, rfl, Lib.hid rfl, HO1⟩
  case round =>
    clear HO1
    obtain ⟨k, N, A2, c2, hk, rfl, rfl, HN, HO⟩ := hrel
    by_cases hlt : k < 8
    · have hb := beN_get 8 U k hlt
      obtain ⟨db, gdb⟩ : ∃ z, U / 256 ^ (8 - 1 - k) % 256 = z := ⟨_, rfl⟩
      rw [gdb] at hb
      have hnx : (beN 8 U).take k ++ [db] = (beN 8 U).take (k + 1) := by rw [List.take_add_one, hb]; rfl
      have Hnx := Lib.hid hnx
      obtain ⟨A3, c3, w3, hrun, ho3, hg3⟩ := app8 23 (Ow.up HO.out (below1 wr (.cells #[.int .u8 (db : Int)] 5))) (one8 wr db) (by have := HN.out; have := Hn.out; omega)
      rw [List.append_assoc, hnx] at ho3
      have HO3 := Lib.hid ho3
      have hx := Hx.out
      have hd0 : decide ((0 : Int) ≤ 7 - (k : Int)) = true := decide_eq_true (by omega)
      have hsb : IntKind.i64.wrap (7 - (k : Int) - 1) = 7 - ((k + 1 : Nat) : Int) := by rw [IntWalk.i64_in _ (by omega)]; omega
      have h8m : IntKind.i64.wrap (8 * (7 - (k : Int))) = ((8 * (7 - k) : Nat) : Int) := by rw [IntWalk.i64_in _ (by omega)]; omega
      clear hb hnx ho3 hg3
      have hcs : k = 0 ∨ k = 1 ∨ k = 2 ∨ k = 3 ∨ k = 4 ∨ k = 5 ∨ k = 6 ∨ k = 7 := by omega
      rcases hcs with rfl | rfl | rfl | rfl | rfl | rfl | rfl | rfl
      · have hw8 : IntKind.u8.wrap ((U : Int) / 72057594037927936) = (db : Int) := by rw [IntKind.wrap_u8]; have h9 : U / 72057594037927936 % 256 = db := gdb; omega
        have hw9 : IntKind.i64.wrap 56 = 56 := rfl
        have hd1 : decide ((0 : Int) ≤ 7) = true := rfl
        replace hsb : IntKind.i64.wrap (7 - 1) = 7 - ((1 : Nat) : Int) := hsb
        clear hd0 h8m gdb hlt hk
        rw [show (7 : Int) - ((0 : Nat) : Int) = 7 from rfl]
        go_wp2_with (first
          | (at_builtin
             refine wl_run (some 22) rfl (by rfl) (exec_append (by rfl) (by rfl) (by rfl) hrun) ?_))
        go_roundw
        case rel => exact ⟨1, N + 1, A3, c3, by omega, by first | rfl | simp, rfl, Lib.hid (by have := HN.out; omega), HO3⟩
        case measure => first | (simp [intOf]; done) | (simp [intOf]; omega) | decide
      · have hw8 : IntKind.u8.wrap ((U : Int) / 281474976710656) = (db : Int) := by rw [IntKind.wrap_u8]; have h9 : U / 281474976710656 % 256 = db := gdb; omega
        have hw9 : IntKind.i64.wrap 48 = 48 := rfl
        have hd1 : decide ((0 : Int) ≤ 6) = true := rfl
        replace hsb : IntKind.i64.wrap (6 - 1) = 7 - ((2 : Nat) : Int) := hsb
        clear hd0 h8m gdb hlt hk
        rw [show (7 : Int) - ((1 : Nat) : Int) = 6 from rfl]
        go_wp2_with (first
          | (at_builtin
             refine wl_run (some 22) rfl (by rfl) (exec_append (by rfl) (by rfl) (by rfl) hrun) ?_))
        go_roundw
        case rel => exact ⟨2, N + 1, A3, c3, by omega, by first | rfl | simp, rfl, Lib.hid (by have := HN.out; omega), HO3⟩
        case measure => first | (simp [intOf]; done) | (simp [intOf]; omega) | decide
      · have hw8 : IntKind.u8.wrap ((U : Int) / 1099511627776) = (db : Int) := by rw [IntKind.wrap_u8]; have h9 : U / 1099511627776 % 256 = db := gdb; omega
        have hw9 : IntKind.i64.wrap 40 = 40 := rfl
        have hd1 : decide ((0 : Int) ≤ 5) = true := rfl
        replace hsb : IntKind.i64.wrap (5 - 1) = 7 - ((3 : Nat) : Int) := hsb
        clear hd0 h8m gdb hlt hk
        rw [show (7 : Int) - ((2 : Nat) : Int) = 5 from rfl]
        go_wp2_with (first
          | (at_builtin
             refine wl_run (some 22) rfl (by rfl) (exec_append (by rfl) (by rfl) (by rfl) hrun) ?_))
        go_roundw
        case rel => exact ⟨3, N + 1, A3, c3, by omega, by first | rfl | simp, rfl, Lib.hid (by have := HN.out; omega), HO3⟩
        case measure => first | (simp [intOf]; done) | (simp [intOf]; omega) | decide
      · have hw8 : IntKind.u8.wrap ((U : Int) / 4294967296) = (db : Int) := by rw [IntKind.wrap_u8]; have h9 : U / 4294967296 % 256 = db := gdb; omega
        have hw9 : IntKind.i64.wrap 32 = 32 := rfl
        have hd1 : decide ((0 : Int) ≤ 4) = true := rfl
        replace hsb : IntKind.i64.wrap (4 - 1) = 7 - ((4 : Nat) : Int) := hsb
        clear hd0 h8m gdb hlt hk
        rw [show (7 : Int) - ((3 : Nat) : Int) = 4 from rfl]
        go_wp2_with (first
          | (at_builtin
             refine wl_run (some 22) rfl (by rfl) (exec_append (by rfl) (by rfl) (by rfl) hrun) ?_))
        go_roundw
        case rel => exact ⟨4, N + 1, A3, c3, by omega, by first | rfl | simp, rfl, Lib.hid (by have := HN.out; omega), HO3⟩
        case measure => first | (simp [intOf]; done) | (simp [intOf]; omega) | decide
      · have hw8 : IntKind.u8.wrap ((U : Int) / 16777216) = (db : Int) := by rw [IntKind.wrap_u8]; have h9 : U / 16777216 % 256 = db := gdb; omega
        have hw9 : IntKind.i64.wrap 24 = 24 := rfl
        have hd1 : decide ((0 : Int) ≤ 3) = true := rfl
        replace hsb : IntKind.i64.wrap (3 - 1) = 7 - ((5 : Nat) : Int) := hsb
        clear hd0 h8m gdb hlt hk
        rw [show (7 : Int) - ((4 : Nat) : Int) = 3 from rfl]
        go_wp2_with (first
          | (at_builtin
             refine wl_run (some 22) rfl (by rfl) (exec_append (by rfl) (by rfl) (by rfl) hrun) ?_))
        go_roundw
        case rel => exact ⟨5, N + 1, A3, c3, by omega, by first | rfl | simp, rfl, Lib.hid (by have := HN.out; omega), HO3⟩
        case measure => first | (simp [intOf]; done) | (simp [intOf]; omega) | decide
      · have hw8 : IntKind.u8.wrap ((U : Int) / 65536) = (db : Int) := by rw [IntKind.wrap_u8]; have h9 : U / 65536 % 256 = db := gdb; omega
        have hw9 : IntKind.i64.wrap 16 = 16 := rfl
        have hd1 : decide ((0 : Int) ≤ 2) = true := rfl
        replace hsb : IntKind.i64.wrap (2 - 1) = 7 - ((6 : Nat) : Int) := hsb
        clear hd0 h8m gdb hlt hk
        rw [show (7 : Int) - ((5 : Nat) : Int) = 2 from rfl]
        go_wp2_with (first
          | (at_builtin
             refine wl_run (some 22) rfl (by rfl) (exec_append (by rfl) (by rfl) (by rfl) hrun) ?_))
        go_roundw
        case rel => exact ⟨6, N + 1, A3, c3, by omega, by first | rfl | simp, rfl, Lib.hid (by have := HN.out; omega), HO3⟩
        case measure => first | (simp [intOf]; done) | (simp [intOf]; omega) | decide
      · have hw8 : IntKind.u8.wrap ((U : Int) / 256) = (db : Int) := by rw [IntKind.wrap_u8]; have h9 : U / 256 % 256 = db := gdb; omega
        have hw9 : IntKind.i64.wrap 8 = 8 := rfl
        have hd1 : decide ((0 : Int) ≤ 1) = true := rfl
        replace hsb : IntKind.i64.wrap (1 - 1) = 7 - ((7 : Nat) : Int) := hsb
        clear hd0 h8m gdb hlt hk
        rw [show (7 : Int) - ((6 : Nat) : Int) = 1 from rfl]
        go_wp2_with (first
          | (at_builtin
             refine wl_run (some 22) rfl (by rfl) (exec_append (by rfl) (by rfl) (by rfl) hrun) ?_))
        go_roundw
        case rel => exact ⟨7, N + 1, A3, c3, by omega, by first | rfl | simp, rfl, Lib.hid (by have := HN.out; omega), HO3⟩
        case measure => first | (simp [intOf]; done) | (simp [intOf]; omega) | decide
      · have hw8 : IntKind.u8.wrap ((U : Int)) = (db : Int) := by rw [IntKind.wrap_u8]; have h9 : U / 1 % 256 = db := gdb; omega
        have hw9 : IntKind.i64.wrap 0 = 0 := rfl
        have hd1 : decide ((0 : Int) ≤ 0) = true := rfl
        replace hsb : IntKind.i64.wrap (0 - 1) = 7 - ((8 : Nat) : Int) := hsb
        clear hd0 h8m gdb hlt hk
        rw [show (7 : Int) - ((7 : Nat) : Int) = 0 from rfl]
        go_wp2_with (first
          | (at_builtin
             refine wl_run (some 22) rfl (by rfl) (exec_append (by rfl) (by rfl) (by rfl) hrun) ?_))
        go_roundw
        case rel => exact ⟨8, N + 1, A3, c3, by omega, by first | rfl | simp, rfl, Lib.hid (by have := HN.out; omega), HO3⟩
        case measure => first | (simp [intOf]; done) | (simp [intOf]; omega) | decide
    · obtain rfl : k = 8 := by omega
      have hd0 : decide ((0 : Int) ≤ 7 - ((8 : Nat) : Int)) = false := rfl
      have HG : RowKit.Hid (∃ A c, Value.slice A2 N c2 = .slice A N c ∧ Gives8 w (L ++ (beN 8 U).take 8) (.returned (.slice A N c)) wr) := Lib.hid (gives8_ow (by rw [Hl8.out, HN.out]) HO.out)
      clear hlt hk
      go_wp2
      go_ret
      obtain ⟨A9, c9, e9, h9⟩ := HG.out
      injection e9 with a1 a2 a3
      subst a1 a3
      exact h9
end Go.Proofs.Ytinfbaflkjghhaa
/- The document's Text, TakeNum, TakeText. -/
namespace Go.Proofs.Ytinfbaflkjghhaa
open Go.RowKit
set_option maxRecDepth 100000 in
set_option maxHeartbeats 4000000 in
theorem rtext_any (A : Option Addr) (c : Nat) (L : List Nat) (s : ByteArray) (w : World) (h : RdS w w.heap.size 1 A L.length c (rowsV f8 L)) (hn : L.length ≤ 900000) (hs : s.size ≤ 10000) :
    Calls Try.prog 47 #[.slice A L.length c, .string s] w (Gives8 w (L ++ textB s)) := by
  obtain ⟨i0, hi, hz0, hz1, hz2⟩ := info_parts_ info_u8
  obtain ⟨A1, c1, w1, hrun, how, hbw⟩ := fresh_copy (P := Try.prog) w 23 23 5 i0 _ 1 1 Try.underlying23 hi hz0 hz1 hz2 rfl (by decide) A L.length c _ h (f8_all L) (by omega) (by decide)
  have ho1 : Ow w w.heap.size 5 1 (.slice A1 L.length c1) L.length (rowsV f8 L) w1 := ⟨how, hbw, Nat.le_refl _, hbw.size⟩
  have e1 : (L ++ [s.size % 256] ++ tB s).length = L.length + 1 + s.size := by simp [tB_len]; omega
  rw [show L ++ textB s = L ++ [s.size % 256] ++ tB s from by rw [textB, List.append_assoc]]
  obtain ⟨S, gS⟩ : ∃ S, s.size = S := ⟨_, rfl⟩
  have Hs := Lib.hid gS
  have hsz : (s.size : Int) = (S : Int) := by rw [gS]
  rw [gS] at e1 hs ⊢
  have hw8 : IntKind.u8.wrap (S : Int) = ((S % 256 : Nat) : Int) := by rw [IntKind.wrap_u8]; omega
  obtain ⟨S8, gS8⟩ : ∃ z, S % 256 = z := ⟨_, rfl⟩
  rw [gS8] at e1 hw8 ⊢
  obtain ⟨A2, c2, w2, hrun2, ho2, -⟩ := app8 23 (Ow.up ho1 (below1 w1 (.cells #[.int .u8 (S8 : Int)] 5))) (one8 w1 S8) (by omega)
  obtain ⟨c3, w3, hrun3, hr3, hb3⟩ := conv_str s w2
  rw [gS] at hrun3 hr3
  obtain ⟨A4, c4, w4, hrun4, ho4, -⟩ := app8 23 (Ow.up ho2 hb3) hr3 (by omega)
  have He1 := Lib.hid e1
  have HO4 := Lib.hid ho4
  obtain ⟨n, gn⟩ : ∃ n, L.length = n := ⟨_, rfl⟩
  rw [gn] at hrun hrun2 hrun4 HO4 He1 ⊢
  clear h hn how hbw ho1 ho2 hr3 hb3 ho4 e1 gn gS gS8 hi hz0 hz1 hz2 hs
  go_enter Try.func47, Try.ntmps47
  go_upto_region 2 with (first
    | (at_builtin
       refine wl_run (some 8) rfl (by rfl) (exec_append (by rfl) (by rfl) (by rfl) hrun) ?_))
  clear hrun
  go_upto_region 3 with (first
    | (at_builtin
       refine wl_run (some 14) rfl (by rfl) (exec_append (by rfl) (by rfl) (by rfl) hrun2) ?_))
  clear hrun2
  refine wp_region_lit ?_
  refine wl_read (v := ?_) (some 15) rfl (by rfl) ?_ ?_
  rotate_left
  · go_simp; (try with_reducible rfl)
  simp only [Act.put, stA_, st0_, st1_]
  refine wl_read (v := ?_) (some 16) rfl (by rfl) ?_ ?_
  rotate_left
  · go_simp; (try with_reducible rfl)
  simp only [Act.put, stA_, st0_, st1_]
  refine wl_run (some 17) rfl (by rfl) (exec_convert_w 9 23 (.tmp 16) rfl rfl hrun3) ?_
  simp only [Act.put, stA_, st0_, st1_]
  clear hrun3
  go_wp2_with (first
    | (at_builtin
       refine wl_run (some 18) rfl (by rfl) (exec_append (by rfl) (by rfl) (by rfl) hrun4) ?_))
  go_ret
  obtain ⟨A9, c9, e9, h9⟩ := gives8_ow He1.out HO4.out
  injection e9 with a1 a2 a3
  subst a1 a3
  exact h9
/-- What the document's TakeNum tells. -/
def GivesRN (w : World) (L : List Nat) (e : Ending) (w' : World) : Prop :=
  ∃ A n c, e = .returned (.tuple #[.int .i64 (if 8 ≤ L.length then num8 (L.take 8) else 0), .slice A n c, .bool (decide (8 ≤ L.length))]) ∧ n = (if 8 ≤ L.length then L.drop 8 else L).length ∧ RdS w' w'.heap.size 1 A n c (rowsV f8 (if 8 ≤ L.length then L.drop 8 else L)) ∧ Below w.heap.size w w'
theorem u64_step (X b : Nat) (hX : X < 72057594037927936) (hb : b < 256) : IntKind.u64.wrap (256 * (X : Int)) = ((256 * X : Nat) : Int) ∧ IntKind.u64.wrap (((256 * X : Nat) : Int) + (b : Int)) = ((X * 256 + b : Nat) : Int) := by
  constructor <;> · rw [IntKind.wrap_u64]; omega
set_option maxRecDepth 100000 in
set_option maxHeartbeats 4000000 in
theorem rtakenum_any (A : Option Addr) (n c : Nat) (L : List Nat) (w : World) (h : RdS w w.heap.size 1 A n c (rowsV f8 L)) (hn : n ≤ 100000) (hb : ∀ b ∈ L, b < 256) :
    Calls Try.prog 22 #[.slice A n c] w (GivesRN w L) := by
  have hl := h.rlen f8_len (by decide)
  unfold GivesRN
  rw [hl]
  by_cases h8 : 8 ≤ n
  · rw [if_pos h8, if_pos h8, decide_eq_true h8]
    have hlow := h.low_ (k := 8) h8
    have hdl : (L.drop 8).length = n - 8 := by rw [List.length_drop, hl]
    rw [show (rowsV f8 L).drop (8 * 1) = rowsV f8 (L.drop 8) from by rw [rowsV_map8, rowsV_map8, List.map_drop], ← hdl] at hlow
    obtain ⟨A1, hA1⟩ : ∃ A1, (if c = 8 then A else A.map (·.add (8 * 1))) = A1 := ⟨_, rfl⟩
    rw [hA1] at hlow
    have HLow := Lib.hid hlow
    obtain ⟨M, gM⟩ : ∃ M, L.drop 8 = M := ⟨_, rfl⟩
    rw [gM] at HLow hdl ⊢
    obtain ⟨m, gm⟩ : ∃ m, M.length = m := ⟨_, rfl⟩
    rw [gm] at HLow hdl ⊢
    obtain ⟨bb, off, rfl, -, hp⟩ := byte_at h (by omega)
    have Hp := Lib.hid hp
    have Hb := Lib.hid hb
    have Hl := Lib.hid hl
    have Hlt := Lib.hid (fun k hk => deN_lt hb k hk)
    have HAr := Lib.hid hA1
    have Hml := Lib.hid hdl.symm
    obtain ⟨x, gx⟩ : ∃ x, num8 (L.take 8) = x := ⟨_, rfl⟩
    have Gx := Lib.hid gx
    rw [gx]
    have hd1 : decide ((n : Int) < 8) = false := decide_eq_false (by omega)
    have hd2 : decide (n < 8) = false := decide_eq_false (by omega)
    have H8 := Lib.hid h8
    clear h hb hlow gM gm hA1 hdl hp gx hl
    go_enter Try.func22, Try.ntmps22
    go_upto_region 4 with fail
    clear hd1 hd2
    go_wp2
    go_loop [5, 6] (fun u i => ∃ k : Nat, k ≤ 8 ∧ u = .int .u64 ((deN (L.take k) : Nat) : Int) ∧ i = .int .i64 (k : Int)) (fun _ i => 8 - (intOf i).toNat)
    case atStart => exact ⟨0, by omega, by simp [deN], by simp⟩
    case round =>
      obtain ⟨k, hk, rfl, rfl⟩ := hrel
      by_cases hlt : k < 8
      · obtain ⟨b, hbk⟩ : ∃ b, L[k]? = some b := ⟨_, List.getElem?_eq_getElem (by have := Hl.out; omega)⟩
        have l0 := Hp.out k b hbk
        have hb6 : b < 256 := Hb.out b (List.mem_of_getElem? hbk)
        have hd : deN (L.take (k + 1)) = deN (L.take k) * 256 + b := by rw [take_snoc_ L k b hbk, deN_snoc]
        have hdl : deN (L.take k) < 72057594037927936 := by
          have h1 := Hlt.out k (by have := Hl.out; omega)
          have h2 : 256 ^ k ≤ 256 ^ 7 := Nat.pow_le_pow_right (by omega) (by omega)
          omega
        obtain ⟨X, gX⟩ : ∃ X, deN (L.take k) = X := ⟨_, rfl⟩
        rw [gX] at hd hdl ⊢
        have Hd := Lib.hid hd
        obtain ⟨hw1, hw3⟩ := u64_step X b hdl hb6
        obtain ⟨X2, gX2⟩ : ∃ z, 256 * X = z := ⟨_, rfl⟩
        rw [gX2] at hw1 hw3
        obtain ⟨X3, gX3⟩ : ∃ z, X * 256 + b = z := ⟨_, rfl⟩
        rw [gX3] at hw3
        have Hd2 : RowKit.Hid (deN (L.take (k + 1)) = X3) := Lib.hid (by rw [hd, gX3])
        have hw2 : IntKind.u64.wrap (b : Int) = (b : Int) := by rw [IntKind.wrap_u64]; omega
        have hk8 : (k : Int) < 8 := by omega
        have hkn : (k : Int) < (n : Int) := by have := H8.out; omega
        clear gX hd hbk gX2 gX3 hdl
        go_wp2
        refine ⟨⟨k + 1, by omega, ?_, by go_num⟩, by simp [intOf]; omega⟩
        rw [Hd2.out]
      · obtain rfl : k = 8 := by omega
        have hwx : IntKind.i64.wrap ((deN (L.take 8) : Nat) : Int) = x := Gx.out
        obtain ⟨X, gX⟩ : ∃ X, deN (L.take 8) = X := ⟨_, rfl⟩
        rw [gX] at hwx ⊢
        clear gX
        go_upto_region 8 with fail
        refine wp_region_reg (Nil_) (by kernel_rfl) ?_
        refine opR_ 0 23 (v := ?_) ?_ ?_; rotate_left
        · intro w' hw'; go_simp; (try with_reducible rfl)
        simp only [st0_, st1_]
        refine opR_ 1 24 (v := ?_) ?_ ?_; rotate_left
        · intro w' hw'; go_simp; (try with_reducible rfl)
        simp only [st0_, st1_]
        refine opR_ 2 25 (v := ?_) ?_ ?_; rotate_left
        · intro w' hw'; go_simp; (try with_reducible rfl)
        simp only [st0_, st1_]
        refine opX_ 3 26 ?_
        apply Exists.intro
        apply And.intro
        · apply yr_run; rfl; intro w' hw'; exact exec_slice_low_as 23 5 (.tmp 25) (.const (.int .i64 8)) rfl Try.underlying23 (s := 1) (by kernel_rfl) rfl rfl H8.out HAr.out Hml.out rfl
        simp only [st0_, st1_]
        refine opR_ 4 2 (v := ?_) ?_ ?_; rotate_left
        · intro w' hw'; go_simp; (try with_reducible rfl)
        simp only [st0_, st1_]
        refine opR_ 5 3 (v := ?_) ?_ ?_; rotate_left
        · intro w' hw'; go_simp; (try with_reducible rfl)
        simp only [st0_, st1_]
        refine opR_ 6 4 (v := ?_) ?_ ?_; rotate_left
        · intro w' hw'; go_simp; (try with_reducible rfl)
        simp only [st0_, st1_]
        refine wpR_done (by kernel_rfl) ?_ _
        intro w9 hw9
        have HD9 : RowKit.Hid (Ext w w9) := Lib.hid (Ext.trans (below_drewN w.heap.size w 1) hw9)
        clear hw9
        go_wp2
        refine bodyPost_ret (v := .tuple #[.int .i64 x, .slice A1 m (c - 8), .bool true]) (by simp [results, Try.results22, go_sem]) rfl ?_
        exact ⟨A1, m, c - 8, rfl, rfl, HLow.out.bl HD9.out, HD9.out⟩
  · rw [if_neg h8, if_neg h8, decide_eq_false h8]
    have HR := Lib.hid h
    have Hl := Lib.hid hl
    have hd1 : decide ((n : Int) < 8) = true := decide_eq_true (by omega)
    have hd2 : decide (n < 8) = true := decide_eq_true (by omega)
    clear h hb hn hl
    go_enter Try.func22, Try.ntmps22
    go_wp2
    exact bodyPost_ret (v := .tuple #[.int .i64 0, .slice A n c, .bool false]) (by simp [results, Try.results22, go_sem]) rfl ⟨A, n, c, rfl, Hl.out.symm, HR.out, Below.refl _ _⟩
end Go.Proofs.Ytinfbaflkjghhaa
/- The document's TakeText. -/
namespace Go.Proofs.Ytinfbaflkjghhaa
open Go.RowKit
end Go.Proofs.Ytinfbaflkjghhaa
/- The document's TakeNum and TakeText: what is left lies where the bytes lay. -/
namespace Go.Proofs.Ytinfbaflkjghhaa
open Go.RowKit
/-- Where A' lies, A lies. -/
def Lies (A A' : Option Addr) : Prop := ∀ a', A' = some a' → ∃ a, A = some a ∧ a.block = a'.block
theorem lies_low {A A1 : Option Addr} {c j s : Nat} (h : (if c = j then A else A.map (·.add (j * s))) = A1) : Lies A A1 := fun a' e => by
  subst e
  split at h
  · exact ⟨a', h, rfl⟩
  · cases A with
    | none => cases h
    | some a =>
      refine ⟨a, rfl, ?_⟩
      have := Option.some.inj h
      rw [← this]
      show a.block = (a.add (j * s)).block
      unfold Addr.add
      first | rfl | (split <;> rfl)
theorem Lies.trans {A A' A'' : Option Addr} (h : Lies A A') (k : Lies A' A'') : Lies A A'' := fun a e => by
  obtain ⟨b, hb, e1⟩ := k a e
  obtain ⟨c, hc, e2⟩ := h b hb
  exact ⟨c, hc, e2.trans e1⟩
def GivesRN2 (w : World) (A0 : Option Addr) (L : List Nat) (e : Ending) (w' : World) : Prop :=
  ∃ A n c, e = .returned (.tuple #[.int .i64 (if 8 ≤ L.length then num8 (L.take 8) else 0), .slice A n c, .bool (decide (8 ≤ L.length))]) ∧ n = (if 8 ≤ L.length then L.drop 8 else L).length ∧ RdS w' w'.heap.size 1 A n c (rowsV f8 (if 8 ≤ L.length then L.drop 8 else L)) ∧ Lies A0 A ∧ Below w.heap.size w w'
def GivesRT2 (w : World) (A0 : Option Addr) (L : List Nat) (e : Ending) (w' : World) : Prop :=
  ∃ A n c, e = .returned (.tuple #[.string (txT L), .slice A n c, .bool (isT L)]) ∧ n = (leT L).length ∧ RdS w' w'.heap.size 1 A n c (rowsV f8 (leT L)) ∧ Lies A0 A ∧ Below w.heap.size w w'
set_option maxRecDepth 100000 in
set_option maxHeartbeats 4000000 in
theorem rtakenum_blk (A : Option Addr) (n c : Nat) (L : List Nat) (w : World) (h : RdS w w.heap.size 1 A n c (rowsV f8 L)) (hn : n ≤ 100000) (hb : ∀ b ∈ L, b < 256) :
    Calls Try.prog 22 #[.slice A n c] w (GivesRN2 w A L) := by
  have hl := h.rlen f8_len (by decide)
  unfold GivesRN2
  rw [hl]
  by_cases h8 : 8 ≤ n
  · rw [if_pos h8, if_pos h8, decide_eq_true h8]
    have hlow := h.low_ (k := 8) h8
    have hdl : (L.drop 8).length = n - 8 := by rw [List.length_drop, hl]
    rw [show (rowsV f8 L).drop (8 * 1) = rowsV f8 (L.drop 8) from by rw [rowsV_map8, rowsV_map8, List.map_drop], ← hdl] at hlow
    obtain ⟨A1, hA1⟩ : ∃ A1, (if c = 8 then A else A.map (·.add (8 * 1))) = A1 := ⟨_, rfl⟩
    rw [hA1] at hlow
    have HLow := Lib.hid hlow
    obtain ⟨M, gM⟩ : ∃ M, L.drop 8 = M := ⟨_, rfl⟩
    rw [gM] at HLow hdl ⊢
    obtain ⟨m, gm⟩ : ∃ m, M.length = m := ⟨_, rfl⟩
    rw [gm] at HLow hdl ⊢
    obtain ⟨bb, off, rfl, -, hp⟩ := byte_at h (by omega)
    have Hp := Lib.hid hp
    have Hb := Lib.hid hb
    have Hl := Lib.hid hl
    have Hlt := Lib.hid (fun k hk => deN_lt hb k hk)
    have HAr := Lib.hid hA1
    have Hml := Lib.hid hdl.symm
    obtain ⟨x, gx⟩ : ∃ x, num8 (L.take 8) = x := ⟨_, rfl⟩
    have Gx := Lib.hid gx
    rw [gx]
    have hd1 : decide ((n : Int) < 8) = false := decide_eq_false (by omega)
    have hd2 : decide (n < 8) = false := decide_eq_false (by omega)
    have H8 := Lib.hid h8
    clear h hb hlow gM gm hA1 hdl hp gx hl
    go_enter Try.func22, Try.ntmps22
    go_upto_region 4 with fail
    clear hd1 hd2
    go_wp2
    go_loop [5, 6] (fun u i => ∃ k : Nat, k ≤ 8 ∧ u = .int .u64 ((deN (L.take k) : Nat) : Int) ∧ i = .int .i64 (k : Int)) (fun _ i => 8 - (intOf i).toNat)
    case atStart => exact ⟨0, by omega, by simp [deN], by simp⟩
    case round =>
      obtain ⟨k, hk, rfl, rfl⟩ := hrel
      by_cases hlt : k < 8
      · obtain ⟨b, hbk⟩ : ∃ b, L[k]? = some b := ⟨_, List.getElem?_eq_getElem (by have := Hl.out; omega)⟩
        have l0 := Hp.out k b hbk
        have hb6 : b < 256 := Hb.out b (List.mem_of_getElem? hbk)
        have hd : deN (L.take (k + 1)) = deN (L.take k) * 256 + b := by rw [take_snoc_ L k b hbk, deN_snoc]
        have hdl : deN (L.take k) < 72057594037927936 := by
          have h1 := Hlt.out k (by have := Hl.out; omega)
          have h2 : 256 ^ k ≤ 256 ^ 7 := Nat.pow_le_pow_right (by omega) (by omega)
          omega
        obtain ⟨X, gX⟩ : ∃ X, deN (L.take k) = X := ⟨_, rfl⟩
        rw [gX] at hd hdl ⊢
        have Hd := Lib.hid hd
        obtain ⟨hw1, hw3⟩ := u64_step X b hdl hb6
        obtain ⟨X2, gX2⟩ : ∃ z, 256 * X = z := ⟨_, rfl⟩
        rw [gX2] at hw1 hw3
        obtain ⟨X3, gX3⟩ : ∃ z, X * 256 + b = z := ⟨_, rfl⟩
        rw [gX3] at hw3
        have Hd2 : RowKit.Hid (deN (L.take (k + 1)) = X3) := Lib.hid (by rw [hd, gX3])
        have hw2 : IntKind.u64.wrap (b : Int) = (b : Int) := by rw [IntKind.wrap_u64]; omega
        have hk8 : (k : Int) < 8 := by omega
        have hkn : (k : Int) < (n : Int) := by have := H8.out; omega
        clear gX hd hbk gX2 gX3 hdl
        go_wp2
        refine ⟨⟨k + 1, by omega, ?_, by go_num⟩, by simp [intOf]; omega⟩
        rw [Hd2.out]
      · obtain rfl : k = 8 := by omega
        have hwx : IntKind.i64.wrap ((deN (L.take 8) : Nat) : Int) = x := Gx.out
        obtain ⟨X, gX⟩ : ∃ X, deN (L.take 8) = X := ⟨_, rfl⟩
        rw [gX] at hwx ⊢
        clear gX
        go_upto_region 8 with fail
        refine wp_region_reg (Nil_) (by kernel_rfl) ?_
        refine opR_ 0 23 (v := ?_) ?_ ?_; rotate_left
        · intro w' hw'; go_simp; (try with_reducible rfl)
        simp only [st0_, st1_]
        refine opR_ 1 24 (v := ?_) ?_ ?_; rotate_left
        · intro w' hw'; go_simp; (try with_reducible rfl)
        simp only [st0_, st1_]
        refine opR_ 2 25 (v := ?_) ?_ ?_; rotate_left
        · intro w' hw'; go_simp; (try with_reducible rfl)
        simp only [st0_, st1_]
        refine opX_ 3 26 ?_
        apply Exists.intro
        apply And.intro
        · apply yr_run; rfl; intro w' hw'; exact exec_slice_low_as 23 5 (.tmp 25) (.const (.int .i64 8)) rfl Try.underlying23 (s := 1) (by kernel_rfl) rfl rfl H8.out HAr.out Hml.out rfl
        simp only [st0_, st1_]
        refine opR_ 4 2 (v := ?_) ?_ ?_; rotate_left
        · intro w' hw'; go_simp; (try with_reducible rfl)
        simp only [st0_, st1_]
        refine opR_ 5 3 (v := ?_) ?_ ?_; rotate_left
        · intro w' hw'; go_simp; (try with_reducible rfl)
        simp only [st0_, st1_]
        refine opR_ 6 4 (v := ?_) ?_ ?_; rotate_left
        · intro w' hw'; go_simp; (try with_reducible rfl)
        simp only [st0_, st1_]
        refine wpR_done (by kernel_rfl) ?_ _
        intro w9 hw9
        have HD9 : RowKit.Hid (Ext w w9) := Lib.hid (Ext.trans (below_drewN w.heap.size w 1) hw9)
        clear hw9
        go_wp2
        refine bodyPost_ret (v := .tuple #[.int .i64 x, .slice A1 m (c - 8), .bool true]) (by simp [results, Try.results22, go_sem]) rfl ?_
        exact ⟨A1, m, c - 8, rfl, rfl, HLow.out.bl HD9.out, lies_low HAr.out, HD9.out⟩
  · rw [if_neg h8, if_neg h8, decide_eq_false h8]
    have HR := Lib.hid h
    have Hl := Lib.hid hl
    have hd1 : decide ((n : Int) < 8) = true := decide_eq_true (by omega)
    have hd2 : decide (n < 8) = true := decide_eq_true (by omega)
    clear h hb hn hl
    go_enter Try.func22, Try.ntmps22
    go_wp2
    exact bodyPost_ret (v := .tuple #[.int .i64 0, .slice A n c, .bool false]) (by simp [results, Try.results22, go_sem]) rfl ⟨A, n, c, rfl, Hl.out.symm, HR.out, fun a' e => ⟨a', e, rfl⟩, Below.refl _ _⟩
set_option maxRecDepth 100000 in
set_option maxHeartbeats 1000000 in
theorem rtaketext_blk (A : Option Addr) (c : Nat) (L : List Nat) (w : World) (h : RdS w w.heap.size 1 A L.length c (rowsV f8 L)) (hn : L.length ≤ 100000) (hb : ∀ b ∈ L, b < 256) :
    Calls Try.prog 77 #[.slice A L.length c] w (GivesRT2 w A L) := by
  unfold GivesRT2
  by_cases hT : isT L = true
  · obtain ⟨h1, h2⟩ := of_decide_eq_true hT
    obtain ⟨b, hb0⟩ : ∃ b, L[0]? = some b := ⟨_, List.getElem?_eq_getElem (by omega)⟩
    have hc1 : c1 L = b := by unfold c1; cases L with | nil => cases hb0 | cons x L => simpa using hb0
    have hb6 : b < 256 := hb b (List.mem_of_getElem? hb0)
    unfold txT leT
    rw [if_pos hT, if_pos hT, hT]
    rw [hc1] at h2 ⊢
    have hlow := h.low_ (k := 1 + b) h2
    have hdl : (L.drop (1 + b)).length = L.length - (1 + b) := List.length_drop
    rw [show (rowsV f8 L).drop ((1 + b) * 1) = rowsV f8 (L.drop (1 + b)) from by rw [rowsV_map8, rowsV_map8, List.map_drop, Nat.mul_one], ← hdl] at hlow
    obtain ⟨A1, hA1⟩ : ∃ A1, (if c = 1 + b then A else A.map (·.add ((1 + b) * 1))) = A1 := ⟨_, rfl⟩
    rw [hA1] at hlow
    have HLow := Lib.hid hlow
    -- the text
    have hmid := h.low_ (k := 1) h1
    rw [show (rowsV f8 L).drop (1 * 1) = rowsV f8 (L.drop 1) from by rw [rowsV_map8, rowsV_map8, List.map_drop]] at hmid
    obtain ⟨A3, hA3⟩ : ∃ A3, (if c = 1 then A else A.map (·.add (1 * 1))) = A3 := ⟨_, rfl⟩
    rw [hA3] at hmid
    have htk := hmid.take_ b (by omega)
    rw [show (rowsV f8 (L.drop 1)).take (b * 1) = rowsV f8 ((L.drop 1).take b) from by rw [rowsV_map8, rowsV_map8, List.map_take, Nat.mul_one]] at htk
    have HV := Lib.hid (fun W (hW : Ext w W) => conv_txt (htk.up hW hW.size))
    obtain ⟨s, gs⟩ : ∃ s, txt ((L.drop 1).take b) = s := ⟨_, rfl⟩
    rw [gs] at HV ⊢
    obtain ⟨M, gM⟩ : ∃ M, L.drop (1 + b) = M := ⟨_, rfl⟩
    rw [gM] at HLow hdl ⊢
    obtain ⟨bb, off, rfl, -, hp⟩ := byte_at h (by omega)
    have l0 := hp 0 b hb0
    rw [Nat.add_zero] at l0
    obtain ⟨n, gn⟩ : ∃ n, L.length = n := ⟨_, rfl⟩
    have hle := h.le
    rw [gn] at hdl h1 h2 hn hle ⊢
    obtain ⟨m, gm⟩ : ∃ m, M.length = m := ⟨_, rfl⟩
    have Gm := Lib.hid gm
    rw [gm] at HLow hdl ⊢
    have hw1 : IntKind.i64.wrap (1 + (b : Int)) = ((1 + b : Nat) : Int) := by rw [IntWalk.i64_in _ (by omega)]; omega
    have hw2 : IntKind.i64.wrap (b : Int) = (b : Int) := IntWalk.i64_in _ (by omega)
    obtain ⟨e, ge⟩ : ∃ e, 1 + b = e := ⟨_, rfl⟩
    rw [ge] at hw1 hA1 hdl HLow h2
    have heb : RowKit.Hid (e - 1 = b) := Lib.hid (by omega)
    have He1 : RowKit.Hid (1 ≤ e ∧ e ≤ c ∧ e ≤ n) := Lib.hid (by omega)
    have d1 : decide (n ≤ b) = false := decide_eq_false (by omega)
    have d2 : decide ((n : Int) ≤ (b : Int)) = false := decide_eq_false (by omega)
    have d3 : ((n : Int) == 0) = false := beq_eq_false_iff_ne.2 (by omega)
    have d4 : (n == 0) = false := beq_eq_false_iff_ne.2 (by omega)
    have d5 : (0 : Int) < (n : Int) := by omega
    have HAr := Lib.hid hA1
    have HAs := Lib.hid hA3
    have Hml := Lib.hid hdl.symm
    clear h hb hlow hmid htk gs gM gn gm ge hA1 hA3 hdl hb0 hc1 hp hT hle
    go_enter Try.func77, Try.ntmps77
    go_upto_region 4 with fail
    have HD : RowKit.Hid (Ext w w.drew) := Lib.hid (below_drewN w.heap.size w 1)
    refine wp_region_reg (Nil_) (by kernel_rfl) ?_
    refine opR_ 0 25 (v := ?_) ?_ ?_; rotate_left
    · intro w' hw'; go_simp; (try with_reducible rfl)
    simp only [st0_, st1_]
    refine opR_ 1 26 (v := ?_) ?_ ?_; rotate_left
    · intro w' hw'; go_simp; (try with_reducible rfl)
    simp only [st0_, st1_]
    refine opX_ 2 27 ?_
    apply Exists.intro
    apply And.intro
    · apply yr_run; rfl; intro w' hw'; exact exec_slice_as 23 5 (.tmp 25) (.const (.int .i64 1)) (.tmp 26) rfl Try.underlying23 (s := 1) (by kernel_rfl) rfl rfl rfl He1.out.1 He1.out.2.1 HAs.out heb.out rfl
    simp only [st0_, st1_]
    refine opX_ 3 28 ?_
    apply Exists.intro
    apply And.intro
    · apply yr_run; rfl; intro w' hw'; exact exec_convert 23 9 (.tmp 27) rfl rfl (HV.out w' (HD.out.trans hw'.ext_nil))
    simp only [st0_, st1_]
    refine opR_ 4 29 (v := ?_) ?_ ?_; rotate_left
    · intro w' hw'; go_simp; (try with_reducible rfl)
    simp only [st0_, st1_]
    refine opR_ 5 30 (v := ?_) ?_ ?_; rotate_left
    · intro w' hw'; go_simp; (try with_reducible rfl)
    simp only [st0_, st1_]
    refine opX_ 6 31 ?_
    apply Exists.intro
    apply And.intro
    · apply yr_run; rfl; intro w' hw'; exact exec_slice_low_as 23 5 (.tmp 29) (.tmp 30) rfl Try.underlying23 (s := 1) (by kernel_rfl) rfl rfl He1.out.2.2 HAr.out Hml.out rfl
    simp only [st0_, st1_]
    refine opR_ 7 2 (v := ?_) ?_ ?_; rotate_left
    · intro w' hw'; go_simp; (try with_reducible rfl)
    simp only [st0_, st1_]
    refine opR_ 8 3 (v := ?_) ?_ ?_; rotate_left
    · intro w' hw'; go_simp; (try with_reducible rfl)
    simp only [st0_, st1_]
    refine opR_ 9 4 (v := ?_) ?_ ?_; rotate_left
    · intro w' hw'; go_simp; (try with_reducible rfl)
    simp only [st0_, st1_]
    refine wpR_done (by kernel_rfl) ?_ _
    intro w9 hw9
    have HD9 : RowKit.Hid (Ext w w9) := Lib.hid (Ext.trans HD.out hw9)
    clear hw9
    go_wp2
    refine bodyPost_ret (v := .tuple #[.string s, .slice A1 m (c - e), .bool true]) (by simp [results, Try.results77, go_sem]) rfl ?_
    exact ⟨A1, m, c - e, rfl, rfl, HLow.out.bl HD9.out, lies_low HAr.out, HD9.out⟩
  · have hf : isT L = false := by simpa using hT
    unfold txT leT
    rw [if_neg hT, if_neg hT, hf]
    have HR := Lib.hid h
    by_cases h1 : 1 ≤ L.length
    · obtain ⟨b, hb0⟩ : ∃ b, L[0]? = some b := ⟨_, List.getElem?_eq_getElem (by omega)⟩
      have hc1 : c1 L = b := by unfold c1; cases L with | nil => cases hb0 | cons x L => simpa using hb0
      have hb6 : b < 256 := hb b (List.mem_of_getElem? hb0)
      have hlt : ¬ (1 + b ≤ L.length) := fun q => by rw [← hc1] at q; exact hT (decide_eq_true ⟨h1, q⟩)
      obtain ⟨bb, off, rfl, -, hp⟩ := byte_at h (by omega)
      have l0 := hp 0 b hb0
      rw [Nat.add_zero] at l0
      obtain ⟨n, gn⟩ : ∃ n, L.length = n := ⟨_, rfl⟩
      have Gn := Lib.hid gn
      have hle := h.le
      rw [gn] at hlt h1 HR hle ⊢
      have hw2 : IntKind.i64.wrap (b : Int) = (b : Int) := IntWalk.i64_in _ (by omega)
      have d1 : decide (n ≤ b) = true := decide_eq_true (by omega)
      have d2 : decide ((n : Int) ≤ (b : Int)) = true := decide_eq_true (by omega)
      obtain ⟨e, ge⟩ : ∃ z, 1 + b = z := ⟨_, rfl⟩
      have hw1 : IntKind.i64.wrap (1 + (b : Int)) = (e : Int) := by rw [IntWalk.i64_in _ (by omega)]; omega
      have d6 : decide ((n : Int) < (e : Int)) = true := decide_eq_true (by omega)
      have d7 : decide (n < e) = true := decide_eq_true (by omega)
      have d8 : decide ((n : Int) < 1) = false := decide_eq_false (by omega)
      have d9 : decide (n < 1) = false := decide_eq_false (by omega)
      have da : n < e := by omega
      clear d1 d2 ge
      have d3 : ((n : Int) == 0) = false := beq_eq_false_iff_ne.2 (by omega)
      have d4 : (n == 0) = false := beq_eq_false_iff_ne.2 (by omega)
      have d5 : (0 : Int) < (n : Int) := by omega
      clear h hb gn hn hb0 hc1 hp hT hlt hf
      go_enter Try.func77, Try.ntmps77
      go_wp2
      refine bodyPost_ret (v := .tuple #[.string { data := #[] }, .slice (some ⟨bb, off, none⟩) n c, .bool false]) (by simp [results, Try.results77, go_sem, Gn.out]) rfl ?_
      exact ⟨_, n, c, rfl, rfl, HR.out, fun a' e => ⟨a', e, rfl⟩, Below.refl _ _⟩
    · obtain ⟨n, gn⟩ : ∃ n, L.length = n := ⟨_, rfl⟩
      have Gn := Lib.hid gn
      rw [gn] at h1 HR ⊢
      obtain rfl : n = 0 := by omega
      clear h hb gn hn hT hf
      go_enter Try.func77, Try.ntmps77
      go_wp2
      refine bodyPost_ret (v := .tuple #[.string { data := #[] }, .slice A 0 c, .bool false]) (by simp [results, Try.results77, go_sem, Gn.out]) rfl ?_
      exact ⟨A, 0, c, rfl, rfl, HR.out, fun a' e => ⟨a', e, rfl⟩, Below.refl _ _⟩
end Go.Proofs.Ytinfbaflkjghhaa
/- Out of XPk30 -/
namespace Go.Proofs.Ytinfbaflkjghhaa
open Go.RowKit
/-- What the document's Take of a name tells. -/
def GivesRI (w : World) (A0 : Option Addr) (L : List Nat) (e : Ending) (w' : World) : Prop :=
  ∃ x1 x2 A' n' c' R, e = .returned (.tuple #[.agg #[.int .i64 x1, .int .i64 x2], .slice A' n' c', .bool (idT L)]) ∧ RdS w' w'.heap.size 1 A' n' c' (rowsV f8 R) ∧ (∃ t, R = L.drop t) ∧ (idT L = true → (x1, x2) = nm4 L ∧ R = L.drop 4) ∧ Lies A0 A' ∧ Below w.heap.size w w'
set_option maxRecDepth 100000 in
set_option maxHeartbeats 4000000 in
theorem ridtake_any (A : Option Addr) (n c : Nat) (L : List Nat) (w : World) (h : RdS w w.heap.size 1 A n c (rowsV f8 L)) (hb : ∀ b ∈ L, b < 256) (hn : n ≤ 100000) :
    Calls Try.prog 97 #[.slice A n c] w (GivesRI w A L) := by
  have hl : L.length = n := h.rlen f8_len (by decide)
  have HR := Lib.hid h
  have HX0 : RowKit.Hid (Whole (w.alloc (.cells #[.int .i64 0, .int .i64 0] 47)) w.heap.size 47 [.int .i64 0, .int .i64 0]) := Lib.hid (Whole.new_ _ _ [_, _])
  have HE0 : RowKit.Hid (Ext w (w.alloc (.cells #[.int .i64 0, .int .i64 0] 47))) := Lib.hid (below1 w _)
  by_cases h4 : n < 4
  · have hT : idT L = false := decide_eq_false (fun q => by have := q.1; omega)
    have HT := Lib.hid hT
    have hlt : (n : Int) < 4 := by omega
    clear h hb hl hT
    go_enter Try.func97, Try.ntmps97
    go_upto_region 1 with fail
    obtain ⟨w0, gw0⟩ : ∃ z, w.alloc (.cells #[.int .i64 0, .int .i64 0] 47) = z := ⟨_, rfl⟩
    obtain ⟨b, gb⟩ : ∃ z, w.heap.size = z := ⟨_, rfl⟩
    rw [gw0] at HX0 HE0 ⊢
    rw [gb] at HX0 ⊢
    have Gb := Lib.hid gb
    clear gw0 gb
    have q0 := HX0.out.cell (i := 0) rfl
    have q1 := HX0.out.cell (i := 1) rfl
    have f0 := HX0.out.free 0
    have f1 := HX0.out.free 1
    go_wp2
    have HXz := (HX0.out.set_ 0 (.int .i64 0)).set_ 1 (.int .i64 0)
    have HBz := ((show Below w.heap.size w w0 from HE0.out).setCell (p := ⟨b, 0, none⟩) (by show w.heap.size ≤ b; exact Nat.le_of_eq Gb.out) (.int .i64 0)).setCell (p := ⟨b, 1, none⟩) (by show w.heap.size ≤ b; exact Nat.le_of_eq Gb.out) (.int .i64 0)
    exact ret_whole3 rfl b rfl rfl rfl HXz Try.underlying47 rfl (by kernel_rfl) rfl (by
      unfold GivesRI
      rw [HT.out]
      exact ⟨0, 0, A, n, c, L, rfl, HR.out.up HBz HBz.size, ⟨0, rfl⟩, fun e => (by cases e), fun a' e => ⟨a', e, rfl⟩, HBz⟩)
  · obtain ⟨a0, a1, a2, a3, K, rfl⟩ : ∃ a0 a1 a2 a3 K, L = a0 :: a1 :: a2 :: a3 :: K := by
      have h5 : 4 ≤ L.length := by omega
      match L, h5 with
      | a :: b :: c :: d :: K, _ => exact ⟨a, b, c, d, K, rfl⟩
    have b0 := hb a0 (by simp)
    have b1 := hb a1 (by simp)
    have b2 := hb a2 (by simp)
    have b3 := hb a3 (by simp)
    have hlow := h.low_ (k := 4) (by omega)
    rw [show (rowsV f8 (a0 :: a1 :: a2 :: a3 :: K)).drop (4 * 1) = rowsV f8 K from rfl] at hlow
    obtain ⟨bb, off, rfl, hbB, hpl⟩ := h.place f8_len (by decide) (by omega)
    have q0 := hpl 0 _ rfl 0 _ rfl
    have q1 := hpl 1 _ rfl 0 _ rfl
    have q2 := hpl 2 _ rfl 0 _ rfl
    have q3 := hpl 3 _ rfl 0 _ rfl
    simp only [Addr.add_lit, Nat.add_zero, Nat.mul_one, Nat.zero_mul, Nat.one_mul] at q0 q1 q2 q3
    have l0 := HE0.out.cell q0
    have l1 := HE0.out.cell q1
    have l2 := HE0.out.cell q2
    have l3 := HE0.out.cell q3
    obtain ⟨A1, hA1⟩ : ∃ A1, (if c = 4 then (some ⟨bb, off, none⟩ : Option Addr) else (some ⟨bb, off, none⟩ : Option Addr).map (·.add (4 * 1))) = A1 := ⟨_, rfl⟩
    rw [hA1] at hlow
    obtain ⟨r, gr⟩ : ∃ z, n - 4 = z := ⟨_, rfl⟩
    have HAr := Lib.hid hA1
    have Hm4 : RowKit.Hid (4 ≤ n ∧ n - 4 = r) := Lib.hid ⟨by omega, gr⟩
    rw [gr] at hlow
    have HLow := Lib.hid hlow
    have v0 : IntKind.i64.wrap (a0 : Int) = (a0 : Int) := IntWalk.i64_in _ (by omega)
    have v1 : IntKind.i64.wrap (a1 : Int) = (a1 : Int) := IntWalk.i64_in _ (by omega)
    have v2 : IntKind.i64.wrap (a2 : Int) = (a2 : Int) := IntWalk.i64_in _ (by omega)
    have v3 : IntKind.i64.wrap (a3 : Int) = (a3 : Int) := IntWalk.i64_in _ (by omega)
    obtain ⟨y1, e1⟩ : ∃ z, 65536 * (a1 : Int) = z := ⟨_, rfl⟩
    obtain ⟨y2, e2⟩ : ∃ z, 256 * (a2 : Int) = z := ⟨_, rfl⟩
    obtain ⟨y3, e3⟩ : ∃ z, y1 + y2 = z := ⟨_, rfl⟩
    obtain ⟨k, e4⟩ : ∃ z, y3 + (a3 : Int) = z := ⟨_, rfl⟩
    have m1 : IntKind.i64.wrap y1 = y1 := IntWalk.i64_in _ (by omega)
    have m2 : IntKind.i64.wrap y2 = y2 := IntWalk.i64_in _ (by omega)
    have m3 : IntKind.i64.wrap y3 = y3 := IntWalk.i64_in _ (by omega)
    have m4 : IntKind.i64.wrap k = k := IntWalk.i64_in _ (by omega)
    replace m1 : IntKind.i64.wrap (65536 * (a1 : Int)) = y1 := by rw [e1]; exact m1
    replace m2 : IntKind.i64.wrap (256 * (a2 : Int)) = y2 := by rw [e2]; exact m2
    replace m3 : IntKind.i64.wrap (y1 + y2) = y3 := by rw [e3]; exact m3
    replace m4 : IntKind.i64.wrap (y3 + (a3 : Int)) = k := by rw [e4]; exact m4
    have hnm : nm4 (a0 :: a1 :: a2 :: a3 :: K) = ((a0 : Int), k) := by
      rw [← e4, ← e3, ← e1, ← e2]
      rfl
    obtain ⟨s, gs⟩ : ∃ z : Int, (a0 : Int) = z := ⟨_, rfl⟩
    rw [gs] at hnm v0
    rw [← gs] at v0
    replace v0 : IntKind.i64.wrap (a0 : Int) = s := v0.trans gs
    have hid : idT (a0 :: a1 :: a2 :: a3 :: K) = mayI s k := by
      unfold idT
      rw [hnm]
      show decide (4 ≤ (a0 :: a1 :: a2 :: a3 :: K).length ∧ mayI s k = true) = mayI s k
      by_cases hm : mayI s k = true
      · rw [hm]
        exact decide_eq_true ⟨by simp, rfl⟩
      · have hf : mayI s k = false := by simpa using hm
        rw [hf]
        exact decide_eq_false (fun q => by cases q.2)
    have HN := Lib.hid hnm
    have HMy := Lib.hid (fun W => rmay_any s k W)
    obtain ⟨my, gmy⟩ : ∃ z, mayI s k = z := ⟨_, rfl⟩
    rw [gmy] at HMy hid
    have HT := Lib.hid hid
    have HbB := Lib.hid hbB
    have hge : ¬ (n : Int) < 4 := by omega
    have hn0 : 0 < n := by omega
    have hn1 : (1 : Int) < (n : Int) := by omega
    have hn2 : (2 : Int) < (n : Int) := by omega
    have hn3 : (3 : Int) < (n : Int) := by omega
    clear gs e1 e2 e3 e4 h hb hlow hpl q0 q1 q2 q3 hA1 gr hid hnm gmy hbB hl b0 b1 b2 b3
    go_enter Try.func97, Try.ntmps97
    go_upto_region 3 with fail
    clear hge
    obtain ⟨w0, gw0⟩ : ∃ z, w.alloc (.cells #[.int .i64 0, .int .i64 0] 47) = z := ⟨_, rfl⟩
    have Hsz : RowKit.Hid (w.heap.size < w0.heap.size) := Lib.hid (by rw [← gw0]; simp)
    obtain ⟨b, gb⟩ : ∃ z, w.heap.size = z := ⟨_, rfl⟩
    rw [gw0] at HX0 HE0 l0 l1 l2 l3 ⊢
    rw [gb] at HX0 ⊢
    have Gb := Lib.hid gb
    clear gw0 gb
    have HDr : RowKit.Hid (Ext w0 w0.drew) := Lib.hid (below_drewN w0.heap.size w0 1)
    have Hnf : RowKit.Hid (¬ From_ w0.heap.size bb) := Lib.hid (show ¬ w0.heap.size ≤ bb by have := HbB.out; have := Hsz.out; omega)
    have ld0 : ∀ w', Kept (From_ w0.heap.size) w0.drew w' → w'.cell? ⟨bb, off, none⟩ = some (.int .u8 (a0 : Int)) := fun w' h => h.cell (show w0.drew.cell? _ = _ from l0) Hnf.out
    have ld1 : ∀ w', Kept (From_ w0.heap.size) w0.drew w' → w'.cell? ⟨bb, off + 1, none⟩ = some (.int .u8 (a1 : Int)) := fun w' h => h.cell (show w0.drew.cell? _ = _ from l1) Hnf.out
    have ld2 : ∀ w', Kept (From_ w0.heap.size) w0.drew w' → w'.cell? ⟨bb, off + 2, none⟩ = some (.int .u8 (a2 : Int)) := fun w' h => h.cell (show w0.drew.cell? _ = _ from l2) Hnf.out
    have ld3 : ∀ w', Kept (From_ w0.heap.size) w0.drew w' → w'.cell? ⟨bb, off + 3, none⟩ = some (.int .u8 (a3 : Int)) := fun w' h => h.cell (show w0.drew.cell? _ = _ from l3) Hnf.out
    refine wp_region_reg (From_ w0.heap.size) (by kernel_rfl) ?_
    refine opR_ 0 12 (v := ?_) ?_ ?_; rotate_left
    · intro w' hw'; go_simp; (try with_reducible rfl)
    simp only [st0_, st1_]
    refine opR_ 1 13 (v := ?_) ?_ ?_; rotate_left
    · intro w' hw'; go_simp; (try with_reducible rfl)
    simp only [st0_, st1_]
    refine opR_ 2 14 (v := ?_) ?_ ?_; rotate_left
    · intro w' hw'; go_simp; (try with_reducible rfl)
    simp only [st0_, st1_]
    refine opR_ 3 15 (v := ?_) ?_ ?_; rotate_left
    · intro w' hw'; go_simp; (try with_reducible rfl)
    simp only [st0_, st1_]
    refine opR_ 4 16 (v := ?_) ?_ ?_; rotate_left
    · intro w' hw'; go_simp; (try with_reducible rfl)
    simp only [st0_, st1_]
    refine opR_ 5 17 (v := ?_) ?_ ?_; rotate_left
    · intro w' hw'; go_simp; (try with_reducible rfl)
    simp only [st0_, st1_]
    refine opR_ 6 18 (v := ?_) ?_ ?_; rotate_left
    · intro w' hw'; go_simp; (try with_reducible rfl)
    simp only [st0_, st1_]
    refine opR_ 7 19 (v := ?_) ?_ ?_; rotate_left
    · intro w' hw'; go_simp; (try with_reducible rfl)
    simp only [st0_, st1_]
    refine opR_ 8 20 (v := ?_) ?_ ?_; rotate_left
    · intro w' hw'; go_simp; (try with_reducible rfl)
    simp only [st0_, st1_]
    refine opR_ 9 21 (v := ?_) ?_ ?_; rotate_left
    · intro w' hw'; go_simp; (try with_reducible rfl)
    simp only [st0_, st1_]
    refine opR_ 10 22 (v := ?_) ?_ ?_; rotate_left
    · intro w' hw'; go_simp; (try with_reducible rfl)
    simp only [st0_, st1_]
    refine opR_ 11 23 (v := ?_) ?_ ?_; rotate_left
    · intro w' hw'; go_simp; (try with_reducible rfl)
    simp only [st0_, st1_]
    refine opR_ 12 24 (v := ?_) ?_ ?_; rotate_left
    · intro w' hw'; go_simp; (try with_reducible rfl)
    simp only [st0_, st1_]
    refine opR_ 13 25 (v := ?_) ?_ ?_; rotate_left
    · intro w' hw'; go_simp; (try with_reducible rfl)
    simp only [st0_, st1_]
    refine opR_ 14 26 (v := ?_) ?_ ?_; rotate_left
    · intro w' hw'; go_simp; (try with_reducible rfl)
    simp only [st0_, st1_]
    refine opR_ 15 27 (v := ?_) ?_ ?_; rotate_left
    · intro w' hw'; go_simp; (try with_reducible rfl)
    simp only [st0_, st1_]
    refine opR_ 16 28 (v := ?_) ?_ ?_; rotate_left
    · intro w' hw'; go_simp; (try with_reducible rfl)
    simp only [st0_, st1_]
    refine opR_ 17 29 (v := ?_) ?_ ?_; rotate_left
    · intro w' hw'; go_simp; (try with_reducible rfl)
    simp only [st0_, st1_]
    refine opR_ 18 30 (v := ?_) ?_ ?_; rotate_left
    · intro w' hw'; go_simp; (try with_reducible rfl)
    simp only [st0_, st1_]
    refine opR_ 19 31 (v := ?_) ?_ ?_; rotate_left
    · intro w' hw'; go_simp; (try with_reducible rfl)
    simp only [st0_, st1_]
    refine opR_ 20 32 (v := ?_) ?_ ?_; rotate_left
    · intro w' hw'; go_simp; (try with_reducible rfl)
    simp only [st0_, st1_]
    apply wpR_run 21 (some 5)
    · rfl
    · rfl
    · kernel_rfl
    · rfl
    intro w' hw'
    refine ⟨.pointer (some ⟨w'.heap.size, 0, none⟩), w'.alloc (.cells #[.int .i64 0, .int .i64 0] 47), by (go_simp; first | done | exact rfl | exact ⟨rfl, rfl⟩), Kept.of_below (below1 _ _), ?_⟩
    have HE3 : RowKit.Hid (Ext w0 (w'.alloc (.cells #[.int .i64 0, .int .i64 0] 47))) := Lib.hid (Ext.trans (Ext.trans HDr.out hw') (below1 w' _))
    have HZ3 : RowKit.Hid (Whole (w'.alloc (.cells #[.int .i64 0, .int .i64 0] 47)) w'.heap.size 47 [.int .i64 0, .int .i64 0]) := Lib.hid (Whole.new_ _ _ [_, _])
    have HL3 : RowKit.Hid (w0.heap.size ≤ w'.heap.size) := Lib.hid (Ext.trans HDr.out hw').size
    obtain ⟨wa, gwa⟩ : ∃ z, w'.alloc (.cells #[.int .i64 0, .int .i64 0] 47) = z := ⟨_, rfl⟩
    obtain ⟨g5, gg5⟩ : ∃ z, w'.heap.size = z := ⟨_, rfl⟩
    rw [gwa] at HE3 HZ3 ⊢
    rw [gg5] at HZ3 HL3 ⊢
    clear gwa gg5 hw' 
    simp only [Act.put, stA_, st0_, st1_]
    apply wpR_store 22
    · rfl
    · rfl
    · kernel_rfl
    · rfl
    intro w' hw'
    refine ⟨w'.setRow g5 #[.int .i64 s, .int .i64 k], store_row_run 47 (.tmp 5) (.tmp 32) rfl g5 rfl [.int .i64 s, .int .i64 k] rfl 47 [.int .i64 0, .int .i64 0] (HZ3.out.bl hw') (by kernel_rfl) rfl (by simp [Value.oneCell']), kept_row (show w0.heap.size ≤ g5 from HL3.out) _, ?_⟩
    have HN4 : RowKit.Hid (g5 ≠ b) := Lib.hid (by have := HL3.out; have := HX0.out.lt; omega)
    have HZ4 : RowKit.Hid (Whole (w'.setRow g5 #[.int .i64 s, .int .i64 k]) g5 47 [.int .i64 s, .int .i64 k]) := Lib.hid (Whole.row (HZ3.out.bl hw') [_, _])
    have HX4 : RowKit.Hid (Whole (w'.setRow g5 #[.int .i64 s, .int .i64 k]) b 47 [.int .i64 0, .int .i64 0]) := Lib.hid (Whole.row_far (HX0.out.bl (Ext.trans HE3.out hw')) (Ne.symm HN4.out) _)
    have HB4 : RowKit.Hid (Below w.heap.size w (w'.setRow g5 #[.int .i64 s, .int .i64 k])) := Lib.hid (below_row (Ext.trans (Ext.trans HE0.out HE3.out) hw') (by have := HL3.out; have := HE0.out.size; omega) _)
    obtain ⟨wb, gwb⟩ : ∃ z, w'.setRow g5 #[.int .i64 s, .int .i64 k] = z := ⟨_, rfl⟩
    rw [gwb] at HZ4 HX4 HB4 ⊢
    clear gwb hw' HE3 HZ3 HX0 HE0 HL3
    try simp only [Act.put, stA_, st0_, st1_]
    refine wpR_done (by kernel_rfl) ?_ _
    intro w8 hw8
    have HX8 := Lib.hid (HX4.out.bl hw8)
    have HZ8 := Lib.hid (HZ4.out.bl hw8)
    have HB8 := Lib.hid (bel_bl HB4.out hw8)
    clear hw8 HX4 HZ4 HB4 ld0 ld1 ld2 ld3 l0 l1 l2 l3 Hnf HbB HDr v0 v1 v2 v3 m1 m2 m3 m4 hn0 hn1 hn2 hn3
    have d0 := HZ8.out.cell (i := 0) rfl
    have d1 := HZ8.out.cell (i := 1) rfl
    cases my with
    | false =>
      go_upto_region 5 with (first
        | (go_at_call 82
           refine (HMy.out _).mono ?_
           rintro e w9 ⟨rfl, hb9⟩
           have HX9 := Lib.hid (HX8.out.bl hb9)
           have HB9 : RowKit.Hid (Below w.heap.size w w9) := Lib.hid (bel_bl HB8.out hb9)
           clear hb9 d0 d1))
      have q0 := HX9.out.cell (i := 0) rfl
      have q1 := HX9.out.cell (i := 1) rfl
      have f0 := HX9.out.free 0
      have f1 := HX9.out.free 1
      go_wp2
      have HXz := (HX9.out.set_ 0 (.int .i64 0)).set_ 1 (.int .i64 0)
      have HBz := (HB9.out.setCell (p := ⟨b, 0, none⟩) (by show w.heap.size ≤ b; exact Nat.le_of_eq Gb.out) (.int .i64 0)).setCell (p := ⟨b, 1, none⟩) (by show w.heap.size ≤ b; exact Nat.le_of_eq Gb.out) (.int .i64 0)
      exact ret_whole3 rfl b rfl rfl rfl HXz Try.underlying47 rfl (by kernel_rfl) rfl (by
        unfold GivesRI
        rw [HT.out]
        exact ⟨0, 0, some ⟨bb, off, none⟩, n, c, a0 :: a1 :: a2 :: a3 :: K, rfl, HR.out.up HBz HBz.size, ⟨0, rfl⟩, fun e => (by cases e), fun a' e => ⟨a', e, rfl⟩, HBz⟩)
    | true =>
      go_upto_region 7 with (first
        | (go_at_call 82
           refine (HMy.out _).mono ?_
           rintro e w9 ⟨rfl, hb9⟩
           have HX9 := Lib.hid (HX8.out.bl hb9)
           have HZ9 := Lib.hid (HZ8.out.bl hb9)
           have HB9 : RowKit.Hid (Below w.heap.size w w9) := Lib.hid (bel_bl HB8.out hb9)
           clear hb9 d0 d1))
      have HD9 : RowKit.Hid (Ext w9 w9.drew) := Lib.hid (below_drewN w9.heap.size w9 1)
      have ld0 : ∀ w', Kept (fun i => i = b) w9.drew w' → w'.cell? ⟨g5, 0, none⟩ = some (.int .i64 s) := fun w' h => h.cell (HZ9.out.dr.cell (i := 0) rfl) HN4.out
      have ld1 : ∀ w', Kept (fun i => i = b) w9.drew w' → w'.cell? ⟨g5, 1, none⟩ = some (.int .i64 k) := fun w' h => h.cell (HZ9.out.dr.cell (i := 1) rfl) HN4.out
      refine wp_region_reg (fun i => i = b) (by kernel_rfl) ?_
      refine opR_ 0 39 (v := ?_) ?_ ?_; rotate_left
      · intro w' hw'; go_simp; (try with_reducible rfl)
      simp only [st0_, st1_]
      refine opR_ 1 40 (v := ?_) ?_ ?_; rotate_left
      · intro w' hw'; go_simp; (try with_reducible rfl)
      simp only [st0_, st1_]
      refine opX_ 2 41 ?_
      apply Exists.intro
      apply And.intro
      · apply yr_run; rfl; intro w' hw'; exact exec_slice_low_as 23 5 (.tmp 40) (.const (.int .i64 4)) rfl Try.underlying23 (s := 1) (by kernel_rfl) rfl rfl Hm4.out.1 HAr.out Hm4.out.2 rfl
      simp only [st0_, st1_]
      apply wpR_store 3
      · rfl
      · rfl
      · kernel_rfl
      · rfl
      intro w' hw'
      refine ⟨w'.setRow b #[.int .i64 s, .int .i64 k], store_row_run 47 (.tmp 2) (.tmp 39) rfl b rfl [.int .i64 s, .int .i64 k] rfl 47 [.int .i64 0, .int .i64 0] (HX9.out.bl (Ext.trans HD9.out hw')) (by kernel_rfl) rfl (by simp [Value.oneCell']), kept_setRow (S := fun i => i = b) w' b rfl _, ?_⟩
      have HX10 : RowKit.Hid (Whole (w'.setRow b #[.int .i64 s, .int .i64 k]) b 47 [.int .i64 s, .int .i64 k]) := Lib.hid (Whole.row (HX9.out.bl (Ext.trans HD9.out hw')) [_, _])
      have HB10 : RowKit.Hid (Below w.heap.size w (w'.setRow b #[.int .i64 s, .int .i64 k])) := Lib.hid (below_row (bel_bl HB9.out (Ext.trans HD9.out hw')) (Nat.le_of_eq Gb.out) _)
      clear hw' 
      try simp only [Act.put, stA_, st0_, st1_]
      refine opR_ 4 3 (v := ?_) ?_ ?_; rotate_left
      · intro w' hw'; go_simp; (try with_reducible rfl)
      simp only [st0_, st1_]
      refine opR_ 5 4 (v := ?_) ?_ ?_; rotate_left
      · intro w' hw'; go_simp; (try with_reducible rfl)
      simp only [st0_, st1_]
      refine wpR_done (by kernel_rfl) ?_ _
      intro w11 hw11
      have HX11 := Lib.hid (HX10.out.bl hw11)
      have HB11 := Lib.hid (bel_bl HB10.out hw11)
      clear hw11
      go_wp2
      exact ret_whole3 rfl b rfl rfl rfl HX11.out Try.underlying47 rfl (by kernel_rfl) rfl (by
        unfold GivesRI
        rw [HT.out, HN.out]
        exact ⟨s, k, A1, r, c - 4, K, rfl, HLow.out.up HB11.out HB11.out.size, ⟨4, rfl⟩, fun _ => ⟨rfl, rfl⟩, lies_low HAr.out, HB11.out⟩)
end Go.Proofs.Ytinfbaflkjghhaa
/- The contracts of diagram.MayLabel and of the document's own. -/
namespace Go.Proofs.Ytinfbaflkjghhaa
open Go.RowKit
def okB (c : UInt8) : Bool := decide (32 ≤ c.toNat ∧ c.toNat ≤ 126)
/-- A label that may be. -/
def mayL (s : ByteArray) : Bool := decide (s.size ≤ 16) && s.data.toList.all okB
theorem takeB_snoc (s : ByteArray) (k : Nat) (h : k < s.size) : s.data.toList.take (k + 1) = s.data.toList.take k ++ [s[k]] := by
  rw [List.take_succ_eq_append_getElem (by simpa using h)]; rfl
theorem allB_step (s : ByteArray) (k : Nat) (h : k < s.size) (ha : (s.data.toList.take k).all okB = true) (hk : okB s[k] = true) : (s.data.toList.take (k + 1)).all okB = true := by
  rw [takeB_snoc s k h, List.all_append, ha]
  simp [hk]
theorem allB_not (s : ByteArray) (k : Nat) (h : k < s.size) (hk : okB s[k] = false) : s.data.toList.all okB = false := by
  rw [List.all_eq_false]
  refine ⟨s[k], ?_, by simp [hk]⟩
  show s.data[k] ∈ s.data.toList
  simp
theorem allB_all (s : ByteArray) (k : Nat) (h : s.size ≤ k) (ha : (s.data.toList.take k).all okB = true) : s.data.toList.all okB = true := by
  rwa [List.take_of_length_le (by simpa using h)] at ha
/-- The rune at a place: the byte itself where it is below 128; else one above 126. -/
theorem decode_is (s : ByteArray) (pos : Nat) (h : pos < s.size) : ∃ c wd, Utf8.decode s pos = (c, wd) ∧ 1 ≤ wd ∧ ((s[pos].toNat < 128 ∧ c = s[pos].toNat ∧ wd = 1) ∨ (128 ≤ s[pos].toNat ∧ 128 ≤ c)) := by
  by_cases ha : s[pos].toNat < 128
  · exact ⟨_, _, decode_ascii s pos h ha, Nat.le_refl _, .inl ⟨ha, rfl, rfl⟩⟩
  · have hh := decode_high s pos h (by omega)
    exact ⟨_, _, rfl, hh.2, .inr ⟨by omega, hh.1⟩⟩
theorem run_next_is (P : Program) (w : World) (s : ByteArray) (pos : Nat) (h : pos < s.size) {c wd : Nat} (hd : Utf8.decode s pos = (c, wd)) (ty : TypeId) :
    (Instr.next (.pointer (some ⟨w.heap.size, 0, none⟩)) true ty).run P (w.iter s pos) = .ok (.tuple #[.bool true, .int .i64 pos, .int .i32 c]) (w.iter s (pos + wd)) := by
  simp only [Instr.next, getObj, setObj, Sem.run_bind, Sem.run, World.iter_heap, Result.andThen, h, if_true, hd, World.iter_set]
  simp [goInt, Sem.run, World.iter_heap, World.iter_set]
set_option maxRecDepth 100000 in
theorem maylabel_any (s : ByteArray) : Pure 81 #[.string s] (.bool (mayL s)) := fun w => by
  by_cases h16 : s.size ≤ 16
  case neg =>
    have hr : mayL s = false := by simp [mayL, h16]
    have hq : decide ((16 : Int) < (s.size : Int)) = true := decide_eq_true (by omega)
    rw [hr]
    clear hr h16
    go_enter Try.func81, Try.ntmps81
    go_wp2
    go_ret
    exact ⟨rfl, Below.refl _ _⟩
  have hq : decide ((16 : Int) < (s.size : Int)) = false := decide_eq_false (by omega)
  have HS := Lib.hid h16
  clear h16
  go_enter Try.func81, Try.ntmps81
  go_wp2
  clear hq
  go_loopw [] (fun w' => ∃ pos : Nat, w' = w.iter s pos ∧ (s.data.toList.take pos).all okB = true) (fun w' => s.size - w'.iterPos w.heap.size)
  case atStart => exact ⟨0, rfl, by simp⟩
  case round =>
    obtain ⟨pos, rfl, ha⟩ := hrel
    have HA := Lib.hid ha
    clear ha
    by_cases hp : pos < s.size
    · obtain ⟨c, wd, hd, hwd, hc⟩ := decode_is s pos hp
      have hnx := fun ty => run_next_is Try.prog w s pos hp hd ty
      have HW := Lib.hid hwd
      clear hd hwd
      by_cases c1 : 32 ≤ c
      · by_cases c2 : c ≤ 126
        · have q1 : decide ((c : Int) < 32) = false := decide_eq_false (by omega)
          have q2 : decide ((126 : Int) < (c : Int)) = false := decide_eq_false (by omega)
          have HC1 := Lib.hid c1
          have HC2 := Lib.hid c2
          clear c1 c2
          have HC := Lib.hid hc
          have HP := Lib.hid hp
          clear hc
          go_wp2
          go_roundw
          case rel =>
            rcases HC.out with ⟨h1, rfl, rfl⟩ | ⟨h1, h2⟩
            · exact ⟨pos + 1, rfl, allB_step s pos hp HA.out (by have a := HC1.out; have b := HC2.out; simpa [okB] using ⟨a, b⟩)⟩
            · have := HC2.out
              omega
          case measure =>
            have a := hp
            have b := HW.out
            simp
            omega
        · have q1 : decide ((c : Int) < 32) = false := decide_eq_false (by omega)
          have q2 : decide ((126 : Int) < (c : Int)) = true := decide_eq_true (by omega)
          have hr : mayL s = false := by
            have : okB (s[pos]'hp) = false := by
              rcases hc with ⟨h1, h2, h3⟩ | ⟨h1, h2⟩
              · simp [okB]; omega
              · simp [okB]; omega
            simp [mayL, allB_not s pos hp this]
          have HR := Lib.hid hr
          clear c1 c2 hr
          go_wp2
          go_ret
          exact ⟨ret_bool HR.out.symm, below1 _ _⟩
      · have q1 : decide ((c : Int) < 32) = true := decide_eq_true (by omega)
        have hr : mayL s = false := by
          have : okB (s[pos]'hp) = false := by
            rcases hc with ⟨h1, h2, h3⟩ | ⟨h1, h2⟩
            · simp [okB]; omega
            · omega
          simp [mayL, allB_not s pos hp this]
        have HR := Lib.hid hr
        clear c1 hr
        go_wp2
        go_ret
        exact ⟨ret_bool HR.out.symm, below1 _ _⟩
    · have hr : mayL s = true := by simp [mayL, HS.out, allB_all s pos (by omega) HA.out]
      have hnx : ∀ ty, (Instr.next (.pointer (some ⟨w.heap.size, 0, none⟩)) true ty).run Try.prog (w.iter s pos) = _ := fun ty => run_next_end w s pos ty hp
      have HR := Lib.hid hr
      clear hp hr
      go_wp2
      go_ret
      exact ⟨ret_bool HR.out.symm, below1 _ _⟩
set_option maxRecDepth 100000 in
theorem rmaylabel_any (s : ByteArray) (hs : s.size ≤ maxLen) : Pure 86 #[.string s] (.bool (mayL s)) := fun w => by
  unfold maxLen at hs
  go_enter Try.func86, Try.ntmps86
  go_wp2
  go_loop [3] (fun i => ∃ k : Nat, k ≤ s.size ∧ i = .int .i64 k ∧ (s.data.toList.take k).all okB = true) (fun i => s.size - (intOf i).toNat)
  case atStart => exact ⟨0, Nat.zero_le _, rfl, by simp⟩
  case round =>
    obtain ⟨k, hk, rfl, ha⟩ := hrel
    have HA := Lib.hid ha
    clear ha
    by_cases hlt : k < s.size
    · obtain ⟨c, gc⟩ : ∃ c : UInt8, c = s[k] := ⟨_, rfl⟩
      have HGC := Lib.hid gc
      by_cases c1 : 32 ≤ c.toNat
      · by_cases c2 : c.toNat ≤ 126
        · have q1 : decide ((c.toNat : Int) < 32) = false := decide_eq_false (by omega)
          have q2 : decide ((126 : Int) < (c.toNat : Int)) = false := decide_eq_false (by omega)
          rw [gc] at q1 q2
          have HK : RowKit.Hid (okB c = true) := Lib.hid (by simp [okB]; omega)
          clear c1 c2 gc
          go_wp2
          go_round
          case rel => exact ⟨k + 1, by omega, by go_num, allB_step s k hlt HA.out (HGC.out ▸ HK.out)⟩
          case measure => simp [intOf]; omega
        · have q1 : decide ((c.toNat : Int) < 32) = false := decide_eq_false (by omega)
          have q2 : decide ((126 : Int) < (c.toNat : Int)) = true := decide_eq_true (by omega)
          rw [gc] at q1 q2
          have hr : mayL s = false := by
            have : okB (s[k]'hlt) = false := by rw [← gc]; simp [okB]; omega
            simp [mayL, allB_not s k hlt this]
          have HR := Lib.hid hr
          clear c1 c2 gc hr
          go_wp2
          go_ret
          exact ⟨ret_bool HR.out.symm, Below.refl _ _⟩
      · have q1 : decide ((c.toNat : Int) < 32) = true := decide_eq_true (by omega)
        rw [gc] at q1
        have hr : mayL s = false := by
          have : okB (s[k]'hlt) = false := by rw [← gc]; simp [okB]; omega
          simp [mayL, allB_not s k hlt this]
        have HR := Lib.hid hr
        clear c1 gc hr
        go_wp2
        go_ret
        exact ⟨ret_bool HR.out.symm, Below.refl _ _⟩
    · have hr : mayL s = decide (s.size ≤ 16) := by simp [mayL, allB_all s k (by omega) HA.out]
      by_cases h16 : s.size ≤ 16
      · rw [decide_eq_true h16] at hr
        have HR := Lib.hid hr
        have q : decide ((s.size : Int) ≤ 16) = true := decide_eq_true (by omega)
        clear hr h16
        go_wp2
        go_ret
        exact ⟨ret_bool HR.out.symm, Below.refl _ _⟩
      · rw [decide_eq_false h16] at hr
        have HR := Lib.hid hr
        have q : decide ((s.size : Int) ≤ 16) = false := decide_eq_false (by omega)
        clear hr h16
        go_wp2
        go_ret
        exact ⟨ret_bool HR.out.symm, Below.refl _ _⟩
end Go.Proofs.Ytinfbaflkjghhaa
/- The contract of op.May. -/
namespace Go.Proofs.Ytinfbaflkjghhaa
open Go.RowKit
/-- What is wrong with an operation. -/
def mayO (o : OpT) : Int := if mayI o.s o.n = true ∧ fitsO o = true ∧ o = onlyO o then (if mayL o.t = true then 0 else 4) else 1
theorem fits_op (o : OpT) : Pure 79 #[.agg (opCells o).toArray] (.bool (fitsO o)) := fun w => fits_at o.k o.s o.n o.s1 o.n1 o.s2 o.n2 o.a0 o.a1 o.a2 o.a3 o.a4 o.b0 o.b1 o.b2 o.b3 o.b4 o.e o.t o.m w
theorem only_op (o : OpT) : Pure 80 #[.agg (opCells o).toArray] (.agg (opCells (onlyO o)).toArray) := fun w => only_at o.k o.s o.n o.s1 o.n1 o.s2 o.n2 o.a0 o.a1 o.a2 o.a3 o.a4 o.b0 o.b1 o.b2 o.b3 o.b4 o.e o.t o.m w
set_option maxRecDepth 100000 in
set_option maxHeartbeats 2000000 in
theorem may_a (o : OpT) (h1 : mayI o.s o.n = false) (w : World) : Calls Try.prog 62 #[.agg (opCells o).toArray] w fun e w' => e = .returned (.int .i64 1) ∧ Below w.heap.size w w' := by
  have hm := may_any o.s o.n
  rw [h1] at hm
  have HM := Lib.hid hm
  clear hm h1
  go_enter Try.func62, Try.ntmps62
  go_upto_region 1 with fail
  obtain ⟨W1, gW1⟩ : ∃ x, w.alloc (.cells (opCells o).toArray 53) = x := ⟨_, rfl⟩
  have HO : RowKit.Hid (Whole W1 w.heap.size 53 (opCells o)) := Lib.hid (by rw [← gW1]; exact Whole.new_ w _ _)
  have HB : RowKit.Hid (Below w.heap.size w W1) := Lib.hid (by rw [← gW1]; exact below1 _ _)
  rw [gW1]
  clear gW1
  obtain ⟨g0, gg0⟩ : ∃ x, w.heap.size = x := ⟨_, rfl⟩
  rw [gg0] at HO ⊢
  clear gg0
  have ld1 : ∀ w', Kept Nil_ W1.drew w' → w'.cell? ⟨g0, 1, none⟩ = some (.int .i64 o.s) := fun w' h => h.nil_cell (HO.out.drew.cell (i := 1) rfl)
  have ld2 : ∀ w', Kept Nil_ W1.drew w' → w'.cell? ⟨g0, 2, none⟩ = some (.int .i64 o.n) := fun w' h => h.nil_cell (HO.out.drew.cell (i := 2) rfl)
  refine wp_region_reg (Nil_) (by kernel_rfl) ?_
  refine opR_ 0 3 (v := ?_) ?_ ?_; rotate_left
  · intro w' hw'; go_simp; (try with_reducible rfl)
  simp only [st0_, st1_]
  refine opR_ 1 4 (v := ?_) ?_ ?_; rotate_left
  · intro w' hw'; go_simp; (try with_reducible rfl)
  simp only [st0_, st1_]
  refine opX_ 2 5 ?_
  apply Exists.intro
  apply And.intro
  · apply yr_call; rfl; rotate_left; intro w' hw'; exact HM.out w'; intro w'; go_simp
  simp only [st0_, st1_]
  refine opR_ 3 6 (v := ?_) ?_ ?_; rotate_left
  · intro w' hw'; go_simp; (try with_reducible rfl)
  simp only [st0_, st1_]
  refine opR_ 4 7 (v := ?_) ?_ ?_; rotate_left
  · intro w' hw'; go_simp; (try with_reducible rfl)
  simp only [st0_, st1_]
  refine opX_ 5 8 ?_
  apply Exists.intro
  apply And.intro
  · exact yr_skip (by rfl)
  simp only [st0_, st1_]
  refine opX_ 6 9 ?_
  apply Exists.intro
  apply And.intro
  · exact yr_skip (by rfl)
  simp only [st0_, st1_]
  refine opX_ 7 10 ?_
  apply Exists.intro
  apply And.intro
  · exact yr_skip (by rfl)
  simp only [st0_, st1_]
  refine opR_ 8 11 (v := ?_) ?_ ?_; rotate_left
  · intro w' hw'; go_simp; (try with_reducible rfl)
  simp only [st0_, st1_]
  refine opR_ 9 12 (v := ?_) ?_ ?_; rotate_left
  · intro w' hw'; go_simp; (try with_reducible rfl)
  simp only [st0_, st1_]
  refine opX_ 10 13 ?_
  apply Exists.intro
  apply And.intro
  · exact yr_skip (by rfl)
  simp only [st0_, st1_]
  refine opX_ 11 14 ?_
  apply Exists.intro
  apply And.intro
  · exact yr_skip (by rfl)
  simp only [st0_, st1_]
  refine opX_ 12 15 ?_
  apply Exists.intro
  apply And.intro
  · exact yr_skip (by rfl)
  simp only [st0_, st1_]
  refine opX_ 13 16 ?_
  apply Exists.intro
  apply And.intro
  · exact yr_skip (by rfl)
  simp only [st0_, st1_]
  refine opR_ 14 17 (v := ?_) ?_ ?_; rotate_left
  · intro w' hw'; go_simp; (try with_reducible rfl)
  simp only [st0_, st1_]
  refine wpR_done (by kernel_rfl) ?_ _
  intro W2 hw2
  have HB2 : RowKit.Hid (Below w.heap.size w W2) := Lib.hid (HB.out.drew.trans (hw2.mono HB.out.drew.size))
  clear hw2 ld1 ld2
  go_wp2
  go_ret
  exact ⟨rfl, HB2.out⟩
set_option maxRecDepth 100000 in
set_option maxHeartbeats 2000000 in
theorem may_b (o : OpT) (h1 : mayI o.s o.n = true) (h2 : fitsO o = false) (w : World) : Calls Try.prog 62 #[.agg (opCells o).toArray] w fun e w' => e = .returned (.int .i64 1) ∧ Below w.heap.size w w' := by
  have hm := may_any o.s o.n
  rw [h1] at hm
  have HM := Lib.hid hm
  have hf := fits_op o
  rw [h2] at hf
  have HF := Lib.hid hf
  clear hm h1 hf h2
  go_enter Try.func62, Try.ntmps62
  go_upto_region 1 with fail
  obtain ⟨W1, gW1⟩ : ∃ x, w.alloc (.cells (opCells o).toArray 53) = x := ⟨_, rfl⟩
  have HO : RowKit.Hid (Whole W1 w.heap.size 53 (opCells o)) := Lib.hid (by rw [← gW1]; exact Whole.new_ w _ _)
  have HB : RowKit.Hid (Below w.heap.size w W1) := Lib.hid (by rw [← gW1]; exact below1 _ _)
  rw [gW1]
  clear gW1
  obtain ⟨g0, gg0⟩ : ∃ x, w.heap.size = x := ⟨_, rfl⟩
  rw [gg0] at HO ⊢
  clear gg0
  have ld1 : ∀ w', Kept Nil_ W1.drew w' → w'.cell? ⟨g0, 1, none⟩ = some (.int .i64 o.s) := fun w' h => h.nil_cell (HO.out.drew.cell (i := 1) rfl)
  have ld2 : ∀ w', Kept Nil_ W1.drew w' → w'.cell? ⟨g0, 2, none⟩ = some (.int .i64 o.n) := fun w' h => h.nil_cell (HO.out.drew.cell (i := 2) rfl)
  refine wp_region_reg (Nil_) (by kernel_rfl) ?_
  refine opR_ 0 3 (v := ?_) ?_ ?_; rotate_left
  · intro w' hw'; go_simp; (try with_reducible rfl)
  simp only [st0_, st1_]
  refine opR_ 1 4 (v := ?_) ?_ ?_; rotate_left
  · intro w' hw'; go_simp; (try with_reducible rfl)
  simp only [st0_, st1_]
  refine opX_ 2 5 ?_
  apply Exists.intro
  apply And.intro
  · apply yr_call; rfl; rotate_left; intro w' hw'; exact HM.out w'; intro w'; go_simp
  simp only [st0_, st1_]
  refine opR_ 3 6 (v := ?_) ?_ ?_; rotate_left
  · intro w' hw'; go_simp; (try with_reducible rfl)
  simp only [st0_, st1_]
  refine opR_ 4 7 (v := ?_) ?_ ?_; rotate_left
  · intro w' hw'; go_simp; (try with_reducible rfl)
  simp only [st0_, st1_]
  refine opX_ 5 8 ?_
  apply Exists.intro
  apply And.intro
  · exact yr_load (by rfl) 53 (.tmp 1) rfl g0 rfl 53 (opCells o) _ (fun w' h => h.whole HO.out.drew (fun h => h)) Try.underlying53 rfl (by kernel_rfl)
  simp only [st0_, st1_]
  refine opX_ 6 9 ?_
  apply Exists.intro
  apply And.intro
  · apply yr_call; rfl; rotate_left; intro w' hw'; exact HF.out w'; intro w'; go_simp
  simp only [st0_, st1_]
  refine opR_ 7 10 (v := ?_) ?_ ?_; rotate_left
  · intro w' hw'; go_simp; (try with_reducible rfl)
  simp only [st0_, st1_]
  refine opR_ 8 11 (v := ?_) ?_ ?_; rotate_left
  · intro w' hw'; go_simp; (try with_reducible rfl)
  simp only [st0_, st1_]
  refine opR_ 9 12 (v := ?_) ?_ ?_; rotate_left
  · intro w' hw'; go_simp; (try with_reducible rfl)
  simp only [st0_, st1_]
  refine opX_ 10 13 ?_
  apply Exists.intro
  apply And.intro
  · exact yr_skip (by rfl)
  simp only [st0_, st1_]
  refine opX_ 11 14 ?_
  apply Exists.intro
  apply And.intro
  · exact yr_skip (by rfl)
  simp only [st0_, st1_]
  refine opX_ 12 15 ?_
  apply Exists.intro
  apply And.intro
  · exact yr_skip (by rfl)
  simp only [st0_, st1_]
  refine opX_ 13 16 ?_
  apply Exists.intro
  apply And.intro
  · exact yr_skip (by rfl)
  simp only [st0_, st1_]
  refine opR_ 14 17 (v := ?_) ?_ ?_; rotate_left
  · intro w' hw'; go_simp; (try with_reducible rfl)
  simp only [st0_, st1_]
  refine wpR_done (by kernel_rfl) ?_ _
  intro W2 hw2
  have HB2 : RowKit.Hid (Below w.heap.size w W2) := Lib.hid (HB.out.drew.trans (hw2.mono HB.out.drew.size))
  clear hw2 ld1 ld2
  go_wp2
  go_ret
  exact ⟨rfl, HB2.out⟩
set_option maxRecDepth 100000 in
set_option maxHeartbeats 2000000 in
theorem may_c (o : OpT) (h1 : mayI o.s o.n = true) (h2 : fitsO o = true) (h3 : ¬ o = onlyO o) (w : World) : Calls Try.prog 62 #[.agg (opCells o).toArray] w fun e w' => e = .returned (.int .i64 1) ∧ Below w.heap.size w w' := by
  have hm := may_any o.s o.n
  rw [h1] at hm
  have HM := Lib.hid hm
  have hf := fits_op o
  rw [h2] at hf
  have HF := Lib.hid hf
  have HN := Lib.hid (only_op o)
  have hq := fun W => neq_op_run o (onlyO o) W
  rw [decide_eq_false h3] at hq
  have HQ := Lib.hid hq
  clear hm h1 hf h2 hq h3
  go_enter Try.func62, Try.ntmps62
  go_upto_region 1 with fail
  obtain ⟨W1, gW1⟩ : ∃ x, w.alloc (.cells (opCells o).toArray 53) = x := ⟨_, rfl⟩
  have HO : RowKit.Hid (Whole W1 w.heap.size 53 (opCells o)) := Lib.hid (by rw [← gW1]; exact Whole.new_ w _ _)
  have HB : RowKit.Hid (Below w.heap.size w W1) := Lib.hid (by rw [← gW1]; exact below1 _ _)
  rw [gW1]
  clear gW1
  obtain ⟨g0, gg0⟩ : ∃ x, w.heap.size = x := ⟨_, rfl⟩
  rw [gg0] at HO ⊢
  clear gg0
  have ld1 : ∀ w', Kept Nil_ W1.drew w' → w'.cell? ⟨g0, 1, none⟩ = some (.int .i64 o.s) := fun w' h => h.nil_cell (HO.out.drew.cell (i := 1) rfl)
  have ld2 : ∀ w', Kept Nil_ W1.drew w' → w'.cell? ⟨g0, 2, none⟩ = some (.int .i64 o.n) := fun w' h => h.nil_cell (HO.out.drew.cell (i := 2) rfl)
  refine wp_region_reg (Nil_) (by kernel_rfl) ?_
  refine opR_ 0 3 (v := ?_) ?_ ?_; rotate_left
  · intro w' hw'; go_simp; (try with_reducible rfl)
  simp only [st0_, st1_]
  refine opR_ 1 4 (v := ?_) ?_ ?_; rotate_left
  · intro w' hw'; go_simp; (try with_reducible rfl)
  simp only [st0_, st1_]
  refine opX_ 2 5 ?_
  apply Exists.intro
  apply And.intro
  · apply yr_call; rfl; rotate_left; intro w' hw'; exact HM.out w'; intro w'; go_simp
  simp only [st0_, st1_]
  refine opR_ 3 6 (v := ?_) ?_ ?_; rotate_left
  · intro w' hw'; go_simp; (try with_reducible rfl)
  simp only [st0_, st1_]
  refine opR_ 4 7 (v := ?_) ?_ ?_; rotate_left
  · intro w' hw'; go_simp; (try with_reducible rfl)
  simp only [st0_, st1_]
  refine opX_ 5 8 ?_
  apply Exists.intro
  apply And.intro
  · exact yr_load (by rfl) 53 (.tmp 1) rfl g0 rfl 53 (opCells o) _ (fun w' h => h.whole HO.out.drew (fun h => h)) Try.underlying53 rfl (by kernel_rfl)
  simp only [st0_, st1_]
  refine opX_ 6 9 ?_
  apply Exists.intro
  apply And.intro
  · apply yr_call; rfl; rotate_left; intro w' hw'; exact HF.out w'; intro w'; go_simp
  simp only [st0_, st1_]
  refine opR_ 7 10 (v := ?_) ?_ ?_; rotate_left
  · intro w' hw'; go_simp; (try with_reducible rfl)
  simp only [st0_, st1_]
  refine opR_ 8 11 (v := ?_) ?_ ?_; rotate_left
  · intro w' hw'; go_simp; (try with_reducible rfl)
  simp only [st0_, st1_]
  refine opR_ 9 12 (v := ?_) ?_ ?_; rotate_left
  · intro w' hw'; go_simp; (try with_reducible rfl)
  simp only [st0_, st1_]
  refine opX_ 10 13 ?_
  apply Exists.intro
  apply And.intro
  · exact yr_load (by rfl) 53 (.tmp 1) rfl g0 rfl 53 (opCells o) _ (fun w' h => h.whole HO.out.drew (fun h => h)) Try.underlying53 rfl (by kernel_rfl)
  simp only [st0_, st1_]
  refine opX_ 11 14 ?_
  apply Exists.intro
  apply And.intro
  · exact yr_load (by rfl) 53 (.tmp 1) rfl g0 rfl 53 (opCells o) _ (fun w' h => h.whole HO.out.drew (fun h => h)) Try.underlying53 rfl (by kernel_rfl)
  simp only [st0_, st1_]
  refine opX_ 12 15 ?_
  apply Exists.intro
  apply And.intro
  · apply yr_call; rfl; rotate_left; intro w' hw'; exact HN.out w'; intro w'; go_simp
  simp only [st0_, st1_]
  refine opX_ 13 16 ?_
  apply Exists.intro
  apply And.intro
  · exact yr_run (by rfl) (fun w' _ => exec_binop_agg .neq 53 (.tmp 13) (.tmp 15) 53 rfl rfl rfl (by kernel_rfl) (HQ.out w'))
  simp only [st0_, st1_]
  refine opR_ 14 17 (v := ?_) ?_ ?_; rotate_left
  · intro w' hw'; go_simp; (try with_reducible rfl)
  simp only [st0_, st1_]
  refine wpR_done (by kernel_rfl) ?_ _
  intro W2 hw2
  have HB2 : RowKit.Hid (Below w.heap.size w W2) := Lib.hid (HB.out.drew.trans (hw2.mono HB.out.drew.size))
  clear hw2 ld1 ld2
  go_wp2
  go_ret
  exact ⟨rfl, HB2.out⟩
set_option maxRecDepth 100000 in
set_option maxHeartbeats 2000000 in
theorem may_d (o : OpT) (h1 : mayI o.s o.n = true) (h2 : fitsO o = true) (h3 : o = onlyO o) (h4 : mayL o.t = false) (w : World) : Calls Try.prog 62 #[.agg (opCells o).toArray] w fun e w' => e = .returned (.int .i64 4) ∧ Below w.heap.size w w' := by
  have hm := may_any o.s o.n
  rw [h1] at hm
  have HM := Lib.hid hm
  have hf := fits_op o
  rw [h2] at hf
  have HF := Lib.hid hf
  have HN := Lib.hid (only_op o)
  have hq := fun W => neq_op_run o (onlyO o) W
  rw [decide_eq_true h3] at hq
  have HQ := Lib.hid hq
  clear hm h1 hf h2 hq h3
  have hl := maylabel_any o.t
  rw [h4] at hl
  have HL := Lib.hid hl
  clear hl h4
  go_enter Try.func62, Try.ntmps62
  go_upto_region 1 with fail
  obtain ⟨W1, gW1⟩ : ∃ x, w.alloc (.cells (opCells o).toArray 53) = x := ⟨_, rfl⟩
  have HO : RowKit.Hid (Whole W1 w.heap.size 53 (opCells o)) := Lib.hid (by rw [← gW1]; exact Whole.new_ w _ _)
  have HB : RowKit.Hid (Below w.heap.size w W1) := Lib.hid (by rw [← gW1]; exact below1 _ _)
  rw [gW1]
  clear gW1
  obtain ⟨g0, gg0⟩ : ∃ x, w.heap.size = x := ⟨_, rfl⟩
  rw [gg0] at HO ⊢
  clear gg0
  have ld1 : ∀ w', Kept Nil_ W1.drew w' → w'.cell? ⟨g0, 1, none⟩ = some (.int .i64 o.s) := fun w' h => h.nil_cell (HO.out.drew.cell (i := 1) rfl)
  have ld2 : ∀ w', Kept Nil_ W1.drew w' → w'.cell? ⟨g0, 2, none⟩ = some (.int .i64 o.n) := fun w' h => h.nil_cell (HO.out.drew.cell (i := 2) rfl)
  refine wp_region_reg (Nil_) (by kernel_rfl) ?_
  refine opR_ 0 3 (v := ?_) ?_ ?_; rotate_left
  · intro w' hw'; go_simp; (try with_reducible rfl)
  simp only [st0_, st1_]
  refine opR_ 1 4 (v := ?_) ?_ ?_; rotate_left
  · intro w' hw'; go_simp; (try with_reducible rfl)
  simp only [st0_, st1_]
  refine opX_ 2 5 ?_
  apply Exists.intro
  apply And.intro
  · apply yr_call; rfl; rotate_left; intro w' hw'; exact HM.out w'; intro w'; go_simp
  simp only [st0_, st1_]
  refine opR_ 3 6 (v := ?_) ?_ ?_; rotate_left
  · intro w' hw'; go_simp; (try with_reducible rfl)
  simp only [st0_, st1_]
  refine opR_ 4 7 (v := ?_) ?_ ?_; rotate_left
  · intro w' hw'; go_simp; (try with_reducible rfl)
  simp only [st0_, st1_]
  refine opX_ 5 8 ?_
  apply Exists.intro
  apply And.intro
  · exact yr_load (by rfl) 53 (.tmp 1) rfl g0 rfl 53 (opCells o) _ (fun w' h => h.whole HO.out.drew (fun h => h)) Try.underlying53 rfl (by kernel_rfl)
  simp only [st0_, st1_]
  refine opX_ 6 9 ?_
  apply Exists.intro
  apply And.intro
  · apply yr_call; rfl; rotate_left; intro w' hw'; exact HF.out w'; intro w'; go_simp
  simp only [st0_, st1_]
  refine opR_ 7 10 (v := ?_) ?_ ?_; rotate_left
  · intro w' hw'; go_simp; (try with_reducible rfl)
  simp only [st0_, st1_]
  refine opR_ 8 11 (v := ?_) ?_ ?_; rotate_left
  · intro w' hw'; go_simp; (try with_reducible rfl)
  simp only [st0_, st1_]
  refine opR_ 9 12 (v := ?_) ?_ ?_; rotate_left
  · intro w' hw'; go_simp; (try with_reducible rfl)
  simp only [st0_, st1_]
  refine opX_ 10 13 ?_
  apply Exists.intro
  apply And.intro
  · exact yr_load (by rfl) 53 (.tmp 1) rfl g0 rfl 53 (opCells o) _ (fun w' h => h.whole HO.out.drew (fun h => h)) Try.underlying53 rfl (by kernel_rfl)
  simp only [st0_, st1_]
  refine opX_ 11 14 ?_
  apply Exists.intro
  apply And.intro
  · exact yr_load (by rfl) 53 (.tmp 1) rfl g0 rfl 53 (opCells o) _ (fun w' h => h.whole HO.out.drew (fun h => h)) Try.underlying53 rfl (by kernel_rfl)
  simp only [st0_, st1_]
  refine opX_ 12 15 ?_
  apply Exists.intro
  apply And.intro
  · apply yr_call; rfl; rotate_left; intro w' hw'; exact HN.out w'; intro w'; go_simp
  simp only [st0_, st1_]
  refine opX_ 13 16 ?_
  apply Exists.intro
  apply And.intro
  · exact yr_run (by rfl) (fun w' _ => exec_binop_agg .neq 53 (.tmp 13) (.tmp 15) 53 rfl rfl rfl (by kernel_rfl) (HQ.out w'))
  simp only [st0_, st1_]
  refine opR_ 14 17 (v := ?_) ?_ ?_; rotate_left
  · intro w' hw'; go_simp; (try with_reducible rfl)
  simp only [st0_, st1_]
  refine wpR_done (by kernel_rfl) ?_ _
  intro W2 hw2
  have HB2 : RowKit.Hid (Below w.heap.size w W2) := Lib.hid (HB.out.drew.trans (hw2.mono HB.out.drew.size))
  have HO2 : RowKit.Hid (Whole W2 g0 53 (opCells o)) := Lib.hid (HO.out.drew.below hw2)
  have l18 := HO2.out.cell (i := 18) rfl
  clear hw2 ld1 ld2
  go_wp2_with (first | (go_at_call 81; refine (HL.out _).mono ?_; rintro e w3 ⟨rfl, hb3⟩))
  go_ret
  exact ⟨rfl, HB2.out.trans (hb3.mono HB2.out.size)⟩
set_option maxRecDepth 100000 in
set_option maxHeartbeats 2000000 in
theorem may_e (o : OpT) (h1 : mayI o.s o.n = true) (h2 : fitsO o = true) (h3 : o = onlyO o) (h4 : mayL o.t = true) (w : World) : Calls Try.prog 62 #[.agg (opCells o).toArray] w fun e w' => e = .returned (.int .i64 0) ∧ Below w.heap.size w w' := by
  have hm := may_any o.s o.n
  rw [h1] at hm
  have HM := Lib.hid hm
  have hf := fits_op o
  rw [h2] at hf
  have HF := Lib.hid hf
  have HN := Lib.hid (only_op o)
  have hq := fun W => neq_op_run o (onlyO o) W
  rw [decide_eq_true h3] at hq
  have HQ := Lib.hid hq
  clear hm h1 hf h2 hq h3
  have hl := maylabel_any o.t
  rw [h4] at hl
  have HL := Lib.hid hl
  clear hl h4
  go_enter Try.func62, Try.ntmps62
  go_upto_region 1 with fail
  obtain ⟨W1, gW1⟩ : ∃ x, w.alloc (.cells (opCells o).toArray 53) = x := ⟨_, rfl⟩
  have HO : RowKit.Hid (Whole W1 w.heap.size 53 (opCells o)) := Lib.hid (by rw [← gW1]; exact Whole.new_ w _ _)
  have HB : RowKit.Hid (Below w.heap.size w W1) := Lib.hid (by rw [← gW1]; exact below1 _ _)
  rw [gW1]
  clear gW1
  obtain ⟨g0, gg0⟩ : ∃ x, w.heap.size = x := ⟨_, rfl⟩
  rw [gg0] at HO ⊢
  clear gg0
  have ld1 : ∀ w', Kept Nil_ W1.drew w' → w'.cell? ⟨g0, 1, none⟩ = some (.int .i64 o.s) := fun w' h => h.nil_cell (HO.out.drew.cell (i := 1) rfl)
  have ld2 : ∀ w', Kept Nil_ W1.drew w' → w'.cell? ⟨g0, 2, none⟩ = some (.int .i64 o.n) := fun w' h => h.nil_cell (HO.out.drew.cell (i := 2) rfl)
  refine wp_region_reg (Nil_) (by kernel_rfl) ?_
  refine opR_ 0 3 (v := ?_) ?_ ?_; rotate_left
  · intro w' hw'; go_simp; (try with_reducible rfl)
  simp only [st0_, st1_]
  refine opR_ 1 4 (v := ?_) ?_ ?_; rotate_left
  · intro w' hw'; go_simp; (try with_reducible rfl)
  simp only [st0_, st1_]
  refine opX_ 2 5 ?_
  apply Exists.intro
  apply And.intro
  · apply yr_call; rfl; rotate_left; intro w' hw'; exact HM.out w'; intro w'; go_simp
  simp only [st0_, st1_]
  refine opR_ 3 6 (v := ?_) ?_ ?_; rotate_left
  · intro w' hw'; go_simp; (try with_reducible rfl)
  simp only [st0_, st1_]
  refine opR_ 4 7 (v := ?_) ?_ ?_; rotate_left
  · intro w' hw'; go_simp; (try with_reducible rfl)
  simp only [st0_, st1_]
  refine opX_ 5 8 ?_
  apply Exists.intro
  apply And.intro
  · exact yr_load (by rfl) 53 (.tmp 1) rfl g0 rfl 53 (opCells o) _ (fun w' h => h.whole HO.out.drew (fun h => h)) Try.underlying53 rfl (by kernel_rfl)
  simp only [st0_, st1_]
  refine opX_ 6 9 ?_
  apply Exists.intro
  apply And.intro
  · apply yr_call; rfl; rotate_left; intro w' hw'; exact HF.out w'; intro w'; go_simp
  simp only [st0_, st1_]
  refine opR_ 7 10 (v := ?_) ?_ ?_; rotate_left
  · intro w' hw'; go_simp; (try with_reducible rfl)
  simp only [st0_, st1_]
  refine opR_ 8 11 (v := ?_) ?_ ?_; rotate_left
  · intro w' hw'; go_simp; (try with_reducible rfl)
  simp only [st0_, st1_]
  refine opR_ 9 12 (v := ?_) ?_ ?_; rotate_left
  · intro w' hw'; go_simp; (try with_reducible rfl)
  simp only [st0_, st1_]
  refine opX_ 10 13 ?_
  apply Exists.intro
  apply And.intro
  · exact yr_load (by rfl) 53 (.tmp 1) rfl g0 rfl 53 (opCells o) _ (fun w' h => h.whole HO.out.drew (fun h => h)) Try.underlying53 rfl (by kernel_rfl)
  simp only [st0_, st1_]
  refine opX_ 11 14 ?_
  apply Exists.intro
  apply And.intro
  · exact yr_load (by rfl) 53 (.tmp 1) rfl g0 rfl 53 (opCells o) _ (fun w' h => h.whole HO.out.drew (fun h => h)) Try.underlying53 rfl (by kernel_rfl)
  simp only [st0_, st1_]
  refine opX_ 12 15 ?_
  apply Exists.intro
  apply And.intro
  · apply yr_call; rfl; rotate_left; intro w' hw'; exact HN.out w'; intro w'; go_simp
  simp only [st0_, st1_]
  refine opX_ 13 16 ?_
  apply Exists.intro
  apply And.intro
  · exact yr_run (by rfl) (fun w' _ => exec_binop_agg .neq 53 (.tmp 13) (.tmp 15) 53 rfl rfl rfl (by kernel_rfl) (HQ.out w'))
  simp only [st0_, st1_]
  refine opR_ 14 17 (v := ?_) ?_ ?_; rotate_left
  · intro w' hw'; go_simp; (try with_reducible rfl)
  simp only [st0_, st1_]
  refine wpR_done (by kernel_rfl) ?_ _
  intro W2 hw2
  have HB2 : RowKit.Hid (Below w.heap.size w W2) := Lib.hid (HB.out.drew.trans (hw2.mono HB.out.drew.size))
  have HO2 : RowKit.Hid (Whole W2 g0 53 (opCells o)) := Lib.hid (HO.out.drew.below hw2)
  have l18 := HO2.out.cell (i := 18) rfl
  clear hw2 ld1 ld2
  go_wp2_with (first | (go_at_call 81; refine (HL.out _).mono ?_; rintro e w3 ⟨rfl, hb3⟩))
  go_ret
  exact ⟨rfl, HB2.out.trans (hb3.mono HB2.out.size)⟩
theorem mayop_any (o : OpT) : Pure 62 #[.agg (opCells o).toArray] (.int .i64 (mayO o)) := fun w => by
  unfold mayO
  by_cases h1 : mayI o.s o.n = true
  case neg =>
    rw [if_neg (fun h => h1 h.1)]
    exact may_a o (by simpa using h1) w
  by_cases h2 : fitsO o = true
  case neg =>
    rw [if_neg (fun h => h2 h.2.1)]
    exact may_b o h1 (by simpa using h2) w
  by_cases h3 : o = onlyO o
  case neg =>
    rw [if_neg (fun h => h3 h.2.2)]
    exact may_c o h1 h2 h3 w
  rw [if_pos ⟨h1, h2, h3⟩]
  by_cases h4 : mayL o.t = true
  · rw [if_pos h4]
    exact may_e o h1 h2 h3 h4 w
  · rw [if_neg h4]
    exact may_d o h1 h2 h3 (by simpa using h4) w
end Go.Proofs.Ytinfbaflkjghhaa
