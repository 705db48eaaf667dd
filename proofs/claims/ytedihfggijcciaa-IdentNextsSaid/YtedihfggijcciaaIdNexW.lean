/- IdentNexts' walk. -/
import Derived.Test.YtedihfggijcciaaIdF
import Derived.Test.YtedihfggijcciaaIdOrd
import Derived.Test.YtedihfggijcciaaCalm
import Derived.Deep.DeepCutAuto
namespace Go.Proofs.Ytedihfggijcciaa
open Go.RowKit
set_option linter.unusedSimpArgs false

/-- How often s stands among ls. -/
def cnt (s : Int) (ls : List Int) : Int := (ls.filter (fun x => decide (x = s))).length
theorem cnt_nil (s : Int) : cnt s [] = 0 := rfl
theorem cnt_snoc (s x : Int) (ls : List Int) : cnt s (ls ++ [x]) = cnt s ls + if x = s then 1 else 0 := by
  unfold cnt
  rw [List.filter_append]
  by_cases h : x = s <;> simp [h]
theorem cnt_bd (s : Int) (ls : List Int) : 0 ≤ cnt s ls ∧ cnt s ls ≤ ls.length := by
  unfold cnt
  exact ⟨by omega, by have := List.length_filter_le (fun x => decide (x = s)) ls; omega⟩
theorem take_snoc (ls : List Int) (k : Nat) (h : k < ls.length) : ls.take (k + 1) = ls.take k ++ [ls[k]] := List.take_succ_eq_append_getElem h

theorem gmax_app (s : Int) (l : List (Int × Int)) (p : Int × Int) : gmax s (l ++ [p]) = gstep s (gmax s l) p := by
  rw [gmax, gmax, List.foldl_append]
  rfl
theorem namesV_app (l l' : List (Int × Int)) : namesV (l ++ l') = namesV l ++ namesV l' := by
  induction l with
  | nil => rfl
  | cons p l ih => simp [namesV, ih]

/-- The cells of a slice of ints. -/
theorem RdS.ints_at {w : World} {B n c : Nat} {A : Option Addr} {ls : List Int} (h : RdS w B 1 A n c (ls.map (Value.int .i64))) (hn : 0 < n) :
    ls.length = n ∧ ∃ b off, A = some ⟨b, off, none⟩ ∧ b < B ∧ ∀ k (hk : k < ls.length), w.cell? ⟨b, off + k, none⟩ = some (.int .i64 ls[k]) := by
  have hl : ls.length = n := by simpa using h.len
  refine ⟨hl, ?_⟩
  cases A with
  | none => exact absurd (h.none_ rfl).1 (by omega)
  | some a =>
    have hg : ∀ k (hk : k < ls.length), (ls.map (Value.int .i64))[k]? = some (.int .i64 ls[k]) := fun k hk => by simp [hk]
    have h0 := h.cell a rfl 0 _ (hg 0 (by omega))
    have ha : ∃ b off, a = ⟨b, off, none⟩ := by
      obtain ⟨b, off, f⟩ := a
      cases f with
      | none => exact ⟨b, off, rfl⟩
      | some f =>
        simp [Addr.add, World.cell?] at h0
        split at h0 <;> cases h0
    obtain ⟨b, off, rfl⟩ := ha
    refine ⟨b, off, rfl, h.low _ rfl hn, fun k hk => ?_⟩
    have e1 := h.cell _ rfl _ _ (hg k hk)
    rwa [Addr.add_lit] at e1

/-- The counts of the sites stand in block g. -/
structure Cnts (w : World) (g : Nat) (ls : List Int) : Prop where
  row : ∃ cs : Array Value, w.heap[g]? = some (.cells cs 3 (0, 0)) ∧ cs.size = 9 ∧ ∀ s : Nat, 1 ≤ s → s ≤ 8 → cs[s]? = some (.int .i64 (cnt s ls))

theorem Cnts.cell {w : World} {g : Nat} {ls : List Int} (h : Cnts w g ls) (s : Nat) (h1 : 1 ≤ s) (h8 : s ≤ 8) : w.cell? ⟨g, s, none⟩ = some (.int .i64 (cnt s ls)) := by
  obtain ⟨cs, hg, _, hc⟩ := h.row
  rw [cell_of_row w g s cs 3 (0, 0) hg]
  exact hc s h1 h8
theorem Cnts.frozen {w : World} {g : Nat} {ls : List Int} (h : Cnts w g ls) (s : Nat) : w.frozen? ⟨g, s, none⟩ = false := by
  obtain ⟨cs, hg, _⟩ := h.row
  exact frozen_of_row w g s cs 3 hg
theorem Cnts.lt {w : World} {g : Nat} {ls : List Int} (h : Cnts w g ls) : g < w.heap.size := by
  obtain ⟨cs, hg, _⟩ := h.row
  exact (Array.getElem?_eq_some_iff.1 hg).1
theorem Cnts.keep {w w' : World} {g : Nat} {ls : List Int} (h : Cnts w g ls) (hb : w'.heap[g]? = w.heap[g]?) : Cnts w' g ls := by
  obtain ⟨cs, hg, r⟩ := h.row
  exact ⟨cs, hb.trans hg, r⟩
theorem Cnts.same {w : World} {g : Nat} {ls ls' : List Int} (h : Cnts w g ls) (hs : ∀ s : Nat, 1 ≤ s → s ≤ 8 → cnt s ls' = cnt s ls) : Cnts w g ls' := by
  obtain ⟨cs, hg, h9, hc⟩ := h.row
  exact ⟨cs, hg, h9, fun s h1 h8 => by rw [hs s h1 h8]; exact hc s h1 h8⟩
theorem Cnts.set_ {w : World} {g : Nat} {ls : List Int} (h : Cnts w g ls) (s : Nat) (h1 : 1 ≤ s) (h8 : s ≤ 8) : Cnts (w.setCell ⟨g, s, none⟩ (.int .i64 (cnt s ls + 1))) g (ls ++ [(s : Int)]) := by
  obtain ⟨cs, hg, h9, hc⟩ := h.row
  refine ⟨cs.setIfInBounds s (.int .i64 (cnt s ls + 1)), heap_setCell_same w g s cs 3 _ hg, by simpa using h9, fun t t1 t8 => ?_⟩
  rw [cnt_snoc]
  by_cases e : s = t
  · subst e
    simp [h9, show s < 9 by omega]
  · rw [Array.getElem?_setIfInBounds_ne e, hc t t1 t8, if_neg (by omega)]
    simp
theorem own_cnts_ne {w : World} {base g n : Nat} {v : Value} {xs : List Value} {ls : List Int} (h : w.ownsRow base 23 2 v n xs) (hg : Cnts w g ls) : v.ownBlock ≠ some g := by
  obtain ⟨cs, hh, _⟩ := hg.row
  rcases h.2 with ⟨rfl, _⟩ | ⟨g', cap, cur, rfl, _, hc, _⟩
  · simp [Value.ownBlock]
  · intro he
    obtain rfl : g' = g := by simpa [Value.ownBlock] using he
    rw [hh] at hc
    injection hc with hc
    injection hc with _ ht
    revert ht
    decide

/-- What holds at each round's head. -/
structure NexIn (w : World) (B g : Nat) (ls : List Int) (k : Nat) (v : Value) (own : List (Int × Int)) (x : World) : Prop where
  b : Below w.heap.size w x
  o : x.ownsRow B 23 2 v own.length (namesV own)
  c : Cnts x g (ls.take k)
  len : own.length ≤ k
  max : ∀ s : Nat, 1 ≤ s → s ≤ 8 → gmax s own = cnt s (ls.take k)

theorem Ext.grown_ {x y : World} (h : Ext x y) (row : Option Nat) : x.grownBy y row := ⟨h.os, h.tape, h.output, h.size, fun i hi _ => h.block i hi⟩
theorem own_up {x y : World} {B n : Nat} {v : Value} {xs : List Value} (h : x.ownsRow B 23 2 v n xs) (hx : Ext x y) : y.ownsRow B 23 2 v n xs :=
  h.kept (hx.grown_ none) (by cases hv : v.ownBlock <;> simp)
theorem below_up {w x y : World} (h : Below w.heap.size w x) (hx : Ext x y) : Below w.heap.size w y := h.trans (Below.mono hx h.size)

theorem NexIn.skip {w x y : World} {B g : Nat} {ls : List Int} {k : Nat} {v : Value} {own : List (Int × Int)} {s0 : Int} (h : NexIn w B g ls k v own x) (hts : ls.take (k + 1) = ls.take k ++ [s0]) (hbad : s0 < 1 ∨ 8 < s0) (hx : Ext x y) : NexIn w B g ls (k + 1) v own y := by
  have hs : ∀ s : Nat, 1 ≤ s → s ≤ 8 → cnt s (ls.take (k + 1)) = cnt s (ls.take k) := fun s h1 h8 => by
    rw [hts, cnt_snoc, if_neg (by omega)]
    simp
  exact ⟨below_up h.b hx, own_up h.o hx, (h.c.keep (hx.block g h.c.lt)).same hs, Nat.le_succ_of_le h.len, fun s h1 h8 => (h.max s h1 h8).trans (hs s h1 h8).symm⟩

/-- The site has been counted; its name is not yet in the list. -/
structure NexMid (w : World) (B g : Nat) (ls : List Int) (k : Nat) (v : Value) (own : List (Int × Int)) (x : World) : Prop where
  b : Below w.heap.size w x
  o : x.ownsRow B 23 2 v own.length (namesV own)
  c : Cnts x g (ls.take (k + 1))
theorem NexMid.up {w x y : World} {B g : Nat} {ls : List Int} {k : Nat} {v : Value} {own : List (Int × Int)} (h : NexMid w B g ls k v own x) (hx : Ext x y) : NexMid w B g ls k v own y :=
  ⟨below_up h.b hx, own_up h.o hx, h.c.keep (hx.block g h.c.lt)⟩
theorem NexIn.mid {w x y : World} {B g : Nat} {ls : List Int} {k : Nat} {v : Value} {own : List (Int × Int)} {s : Nat} {q : Int} (h : NexIn w B g ls k v own x) (hts : ls.take (k + 1) = ls.take k ++ [(s : Int)]) (h1 : 1 ≤ s) (h8 : s ≤ 8)
    (hq : cnt s (ls.take k) = q) (hx : Ext x y) (hg : w.heap.size ≤ g) : NexMid w B g ls k v own (y.setCell ⟨g, s, none⟩ (.int .i64 (q + 1))) := by
  have hc := (h.c.keep (hx.block g h.c.lt))
  have hne := own_cnts_ne (own_up h.o hx) hc
  refine ⟨(below_up h.b hx).setCell hg _, ?_, ?_⟩
  · have hgr : y.grownBy (y.setCell ⟨g, s, none⟩ (.int .i64 (q + 1))) (some g) := ⟨rfl, rfl, rfl, by simp [World.setCell], fun i _ hne => Below.heap_setCell _ _ _ _ (fun e => hne (by rw [e]))⟩
    exact (own_up h.o hx).kept hgr (.inr hne)
  · rw [hts, ← hq]
    exact hc.set_ s h1 h8
theorem NexMid.push {w x y z : World} {B g : Nat} {ls : List Int} {k : Nat} {v v' : Value} {own : List (Int × Int)} {s : Nat} {q : Int} (h : NexMid w B g ls k v own y) (hI : NexIn w B g ls k v own x) (hts : ls.take (k + 1) = ls.take k ++ [(s : Int)])
    (h1 : 1 ≤ s) (h8 : s ≤ 8) (hq : cnt s (ls.take k) = q) (hk : k < 40) (ho : z.ownsRow B 23 2 v' (own.length + 1) (namesV own ++ [.int .i64 s, .int .i64 (q + 1)])) (hg : y.grownBy z v.ownBlock) (hwB : w.heap.size ≤ B) :
    NexIn w B g ls (k + 1) v' (own ++ [((s : Int), q + 1)]) z := by
  have hne := own_cnts_ne h.o h.c
  refine ⟨h.b.grown hg h.b.size (fun b hb => Nat.le_trans hwB (h.o.lt b hb).1), ?_, h.c.keep (hg.block g h.c.lt (Ne.symm hne)), ?_, fun t t1 t8 => ?_⟩
  · rw [List.length_append, namesV_app]
    exact ho
  · have := hI.len
    simp
    omega
  · rw [gmax_app, hts, cnt_snoc, hI.max t t1 t8]
    have hb := cnt_bd s (ls.take k)
    have hl : (ls.take k).length ≤ k := List.length_take_le _ _
    unfold gstep
    by_cases e : s = t
    · subst e
      have hm : mayI s (q + 1) = true := by
        unfold mayI
        simp
        omega
      rw [if_pos ⟨rfl, hm⟩, if_pos rfl, hq]
      show max q (q + 1) = q + 1
      omega
    · rw [if_neg (fun e' => e (by have := e'.1; simp at this; omega)), if_neg (by omega)]
      omega

theorem info_id : (Try.prog.info? 23).map (fun i => (i.zero, i.size, i.bytes)) = some (some (.agg #[.int .i64 0, .int .i64 0]), 2, 16) := by kernel_rfl
theorem info_int : (Try.prog.info? 3).map (fun i => (i.zero, i.size, i.bytes)) = some (some (.int .i64 0), 1, 8) := by kernel_rfl

theorem next_bad (site : Int) (own : List (Int × Int)) (h : site < 1 ∨ 8 < site) : nextI site own = (0, 0) := by
  unfold nextI
  rw [if_neg]
  unfold mayI
  simp
  omega
theorem next_ok (s : Nat) (own : List (Int × Int)) (h1 : 1 ≤ s) (h8 : s ≤ 8) (hb : gmax s own ≤ 40) : nextI s own = ((s : Int), gmax s own + 1) := by
  unfold nextI
  rw [if_pos]
  have := gmax_bd s own
  unfold mayI
  simp
  omega

set_option maxRecDepth 100000 in
set_option maxHeartbeats 2000000 in
theorem law_nexts (A : Option Addr) (n c : Nat) (ls : List Int) (w : World) (h : RdS w w.heap.size 1 A n c (ls.map (Value.int .i64))) (hn : n ≤ maxLen) :
    Calls Try.prog 7 #[.slice A n c] w fun e w' => e = .returned (.bool true) ∧ Below w.heap.size w w' := by
  have H0 := Lib.hid shown_any
  obtain ⟨i0, hi, hz0, hz1, hz2⟩ := info_parts info_int
  obtain ⟨j0, hj, hy0, hy1, hy2⟩ := info_parts info_id
  have hmk : ∀ W : World, (Instr.makeSlice 48 (.int .i64 9) (.int .i64 9)).run Try.prog W = .ok (.slice (some ⟨W.heap.size, 0, none⟩) 9 9) (W.alloc (.cells (madeCells (Value.int .i64 0).cells (9 * 1)) 3)) := fun W => by
    have := run_make (P := Try.prog) W 48 3 i0 (.int .i64 0) Try.underlying48 hi hz0 .i64 .i64 9 9 (by omega) (by omega) (by rw [hz2]; omega) (by omega)
    rw [hz1] at this
    exact this
  have H := Lib.hid h
  unfold maxLen at hn
  clear h
  go_enter Try.func7, Try.ntmps7
  go_wp2_with (first | (go_at_call 9; refine (H0.out _).mono ?_; rintro e w1 ⟨rfl, hb1⟩))
  go_loopw [4, 6] (fun v i x => ∃ (k : Nat) (own : List (Int × Int)), k ≤ n ∧ k ≤ 40 ∧ i = .int .i64 k ∧ NexIn w w1.heap.size (w1.heap.size + 1) ls k v own x) (fun _ i _ => n - (intOf i).toNat)
  case atStart =>
    refine ⟨0, [], Nat.zero_le _, by omega, rfl, (below_up hb1 (below2 _ _ _)), ?_, ⟨madeCells #[.int .i64 0] 9, ?_, size_madeCells _ _, fun s h1 h8 => ?_⟩, Nat.le_refl _, fun s _ _ => rfl⟩
    · exact (own_new rfl (Nat.le_refl _) (by unfold maxLen; omega) rfl rfl : (w1.alloc (.cells #[] 23)).ownsRow _ _ 2 _ 0 []).alloc _
    · have := heap_alloc_new (w1.alloc (.cells #[] 23)) (.cells (madeCells #[.int .i64 0] 9) 3)
      simpa using this
    · have : s = 1 ∨ s = 2 ∨ s = 3 ∨ s = 4 ∨ s = 5 ∨ s = 6 ∨ s = 7 ∨ s = 8 := by omega
      rcases this with rfl | rfl | rfl | rfl | rfl | rfl | rfl | rfl <;> simp [madeCells, cnt]
  case round =>
    obtain ⟨k, own, hk, hk4, rfl, hI⟩ := hrel
    by_cases hlt : k < n
    · by_cases h40 : k < 40
      · obtain ⟨hl, b, off, rfl, hb, hc⟩ := H.out.ints_at (by omega)
        obtain ⟨Ao, co, rfl, hro⟩ := RdS.of_own hI.o
        have hx0 := (hI.b.cell (p := ⟨b, off + k, none⟩) hb).trans (hc k (by omega))
        have hts := take_snoc ls k (by omega)
        have hlen := hI.len
        generalize ls[k]'(by omega) = x at *
        have HTS := Lib.hid hts
        clear hts hc
        have HN := Lib.hid (fun W h => next_any Ao own.length co own x W h (by omega))
        have HL := Lib.hid hl
        clear hl
        by_cases hbad : x < 1 ∨ 8 < x
        · have HB := Lib.hid hbad
          rw [next_bad x own hbad] at HN
          rcases hbad with hbad | hbad
          · go_wp2_with (first | (go_at_call 24; refine (HN.out _ (by exact hro)).mono ?_; rintro e w2 ⟨rfl, hb2⟩; have hx1 := (hb2.cell (World.block_lt_of_cell? _ _ hx0)).trans hx0; have hbz := World.block_lt_of_cell? _ _ hx1))
            go_roundw
            case rel => exact ⟨k + 1, own, by omega, by omega, by go_num, hI.skip HTS.out HB.out (Ext.trans hb2 (below1 _ _))⟩
            case measure => simp [intOf]; omega
          · have h1 : ¬ x < 1 := by omega
            go_wp2_with (first | (go_at_call 24; refine (HN.out _ (by exact hro)).mono ?_; rintro e w2 ⟨rfl, hb2⟩; have hx1 := (hb2.cell (World.block_lt_of_cell? _ _ hx0)).trans hx0; have hbz := World.block_lt_of_cell? _ _ hx1))
            go_roundw
            case rel => exact ⟨k + 1, own, by omega, by omega, by go_num, hI.skip HTS.out HB.out (Ext.trans hb2 (below1 _ _))⟩
            case measure => simp [intOf]; omega
        · obtain ⟨s, rfl⟩ := Int.eq_ofNat_of_zero_le (show 0 ≤ x by omega)
          have h1 : 1 ≤ s := by omega
          have h8 : s ≤ 8 := by omega
          have t1 : ¬ (s : Int) < 1 := by omega
          have t2 : ¬ (8 : Int) < (s : Int) := by omega
          have t3 : (0 : Int) ≤ (s : Int) := by omega
          have t4 : (s : Int) < 9 := by omega
          have hbd := cnt_bd s (ls.take k)
          have hll : (ls.take k).length ≤ k := List.length_take_le _ _
          have hmx := hI.max s h1 h8
          rw [next_ok s own h1 h8 (by omega), hmx] at HN
          have hcc := hI.c.cell s h1 h8
          have hcf := hI.c.frozen s
          have hgl := hI.c.lt
          clear hbad hmx
          generalize hq : cnt s (ls.take k) = q at *
          have HQ := Lib.hid hq
          clear hq
          have hmy : mayI s (q + 1) = true := by
            unfold mayI
            simp
            omega
          have HM := may_any s (q + 1)
          rw [hmy] at HM
          clear hmy
          go_upto_region 12 with (first | (go_at_call 24; refine (HN.out _ (by exact hro)).mono ?_; rintro e w2 ⟨rfl, hb2⟩; have hx1 := (hb2.cell (World.block_lt_of_cell? _ _ hx0)).trans hx0; have hbz := World.block_lt_of_cell? _ _ hx1; have hc2 := keepc hb2 hcc; have hg2 := World.block_lt_of_cell? _ _ hc2; have hf2 := (hb2.frozen (p := ⟨w1.heap.size + 1, s, none⟩) hgl).trans hcf))
          have hM := (hI.mid HTS.out h1 h8 HQ.out hb2 (by have := hb1.size; omega)).up (below1 _ (.cells #[.int .i64 s, .int .i64 (q + 1)] 23))
          have e0 : ((w2.setCell ⟨w1.heap.size + 1, s, none⟩ (.int .i64 (q + 1))).alloc (.cells #[.int .i64 s, .int .i64 (q + 1)] 23)).cell? ⟨w2.heap.size, 0, none⟩ = some (.int .i64 s) := by go_simp
          have e1 : ((w2.setCell ⟨w1.heap.size + 1, s, none⟩ (.int .i64 (q + 1))).alloc (.cells #[.int .i64 s, .int .i64 (q + 1)] 23)).cell? ⟨w2.heap.size, 1, none⟩ = some (.int .i64 (q + 1)) := by go_simp
          have hne : (⟨w1.heap.size + 1, s, none⟩ : Addr) ≠ ⟨b, off + k, none⟩ := fun e => (by have := hb1.size; have := congrArg Addr.block e; simp at this; omega)
          have e2 : ((w2.setCell ⟨w1.heap.size + 1, s, none⟩ (.int .i64 (q + 1))).alloc (.cells #[.int .i64 s, .int .i64 (q + 1)] 23)).cell? ⟨b, off + k, none⟩ = some (.int .i64 s) := (by rw [World.cell?_alloc_lt _ _ _ (by simpa using hbz), World.cell?_setCell_other _ _ _ _ hne]; exact hx1)
          have e3 : ((w2.setCell ⟨w1.heap.size + 1, s, none⟩ (.int .i64 (q + 1))).alloc (.cells #[.int .i64 s, .int .i64 (q + 1)] 23)).cell? ⟨w1.heap.size + 1, s, none⟩ = some (.int .i64 (q + 1)) := by go_simp
          generalize ((w2.setCell ⟨w1.heap.size + 1, s, none⟩ (.int .i64 (q + 1))).alloc (.cells #[.int .i64 s, .int .i64 (q + 1)] 23)) = wq at *
          have z0 := fun w' (h : Ext wq.drew w') => h.cell (Ext.cell (show Ext wq wq.drew from (Below.refl _ _).drew) e0)
          have z1 := fun w' (h : Ext wq.drew w') => h.cell (Ext.cell (show Ext wq wq.drew from (Below.refl _ _).drew) e1)
          have z2 := fun w' (h : Ext wq.drew w') => h.cell (Ext.cell (show Ext wq wq.drew from (Below.refl _ _).drew) e2)
          have z3 := fun w' (h : Ext wq.drew w') => h.cell (Ext.cell (show Ext wq wq.drew from (Below.refl _ _).drew) e3)
          refine wp_region_calm (by kernel_rfl) ?_
          apply wpK_next 0 (some 51)
          · simp only [List.getElem?_toArray, List.getElem?_cons_succ, List.getElem?_cons_zero]; exact rfl
          · rfl
          · kernel_rfl
          · kernel_rfl
          · kernel_rfl
          · exact fun _ _ _ _ h => h
          apply Exists.intro
          apply And.intro
          · first | exact yk_skip (by rfl) | (apply yk_run; rfl; intro w' hw'; go_simp; (try with_reducible rfl))
          simp only [Act.put, List.setIfInBounds_toArray, List.set_cons_zero, List.set_cons_succ]
          apply wpK_next 1 (some 52)
          · simp only [List.getElem?_toArray, List.getElem?_cons_succ, List.getElem?_cons_zero]; exact rfl
          · rfl
          · kernel_rfl
          · kernel_rfl
          · kernel_rfl
          · exact fun _ _ _ _ h => h
          apply Exists.intro
          apply And.intro
          · first | exact yk_skip (by rfl) | (apply yk_run; rfl; intro w' hw'; go_simp; (try with_reducible rfl))
          simp only [Act.put, List.setIfInBounds_toArray, List.set_cons_zero, List.set_cons_succ]
          apply wpK_next 2 (some 53)
          · simp only [List.getElem?_toArray, List.getElem?_cons_succ, List.getElem?_cons_zero]; exact rfl
          · rfl
          · kernel_rfl
          · kernel_rfl
          · kernel_rfl
          · exact fun _ _ _ _ h => h
          apply Exists.intro
          apply And.intro
          · first | exact yk_skip (by rfl) | (apply yk_run; rfl; intro w' hw'; go_simp; (try with_reducible rfl))
          simp only [Act.put, List.setIfInBounds_toArray, List.set_cons_zero, List.set_cons_succ]
          apply wpK_next 3 (some 54)
          · simp only [List.getElem?_toArray, List.getElem?_cons_succ, List.getElem?_cons_zero]; exact rfl
          · rfl
          · kernel_rfl
          · kernel_rfl
          · kernel_rfl
          · exact fun _ _ _ _ h => h
          apply Exists.intro
          apply And.intro
          · first | exact yk_skip (by rfl) | (apply yk_run; rfl; intro w' hw'; go_simp; (try with_reducible rfl))
          simp only [Act.put, List.setIfInBounds_toArray, List.set_cons_zero, List.set_cons_succ]
          apply wpK_next 4 (some 55)
          · simp only [List.getElem?_toArray, List.getElem?_cons_succ, List.getElem?_cons_zero]; exact rfl
          · rfl
          · kernel_rfl
          · kernel_rfl
          · kernel_rfl
          · exact fun _ _ _ _ h => h
          apply Exists.intro
          apply And.intro
          · first | exact yk_skip (by rfl) | (apply yk_run; rfl; intro w' hw'; go_simp; (try with_reducible rfl))
          simp only [Act.put, List.setIfInBounds_toArray, List.set_cons_zero, List.set_cons_succ]
          apply wpK_next 5 (some 56)
          · simp only [List.getElem?_toArray, List.getElem?_cons_succ, List.getElem?_cons_zero]; exact rfl
          · rfl
          · kernel_rfl
          · kernel_rfl
          · kernel_rfl
          · exact fun _ _ _ _ h => h
          apply Exists.intro
          apply And.intro
          · first | exact yk_skip (by rfl) | (apply yk_run; rfl; intro w' hw'; go_simp; (try with_reducible rfl))
          simp only [Act.put, List.setIfInBounds_toArray, List.set_cons_zero, List.set_cons_succ]
          apply wpK_next 6 (some 57)
          · simp only [List.getElem?_toArray, List.getElem?_cons_succ, List.getElem?_cons_zero]; exact rfl
          · rfl
          · kernel_rfl
          · kernel_rfl
          · kernel_rfl
          · exact fun _ _ _ _ h => h
          apply Exists.intro
          apply And.intro
          · first | exact yk_skip (by rfl) | (apply yk_run; rfl; intro w' hw'; go_simp; (try with_reducible rfl))
          simp only [Act.put, List.setIfInBounds_toArray, List.set_cons_zero, List.set_cons_succ]
          apply wpK_next 7 (some 58)
          · simp only [List.getElem?_toArray, List.getElem?_cons_succ, List.getElem?_cons_zero]; exact rfl
          · rfl
          · kernel_rfl
          · kernel_rfl
          · kernel_rfl
          · exact fun _ _ _ _ h => h
          apply Exists.intro
          apply And.intro
          · first | exact yk_skip (by rfl) | (apply yk_run; rfl; intro w' hw'; go_simp; (try with_reducible rfl))
          simp only [Act.put, List.setIfInBounds_toArray, List.set_cons_zero, List.set_cons_succ]
          apply wpK_next 8 (some 59)
          · simp only [List.getElem?_toArray, List.getElem?_cons_succ, List.getElem?_cons_zero]; exact rfl
          · rfl
          · kernel_rfl
          · kernel_rfl
          · kernel_rfl
          · exact fun _ _ _ _ h => h
          apply Exists.intro
          apply And.intro
          · first | exact yk_skip (by rfl) | (apply yk_run; rfl; intro w' hw'; go_simp; (try with_reducible rfl))
          simp only [Act.put, List.setIfInBounds_toArray, List.set_cons_zero, List.set_cons_succ]
          apply wpK_next 9 (some 60)
          · simp only [List.getElem?_toArray, List.getElem?_cons_succ, List.getElem?_cons_zero]; exact rfl
          · rfl
          · kernel_rfl
          · kernel_rfl
          · kernel_rfl
          · exact fun _ _ _ _ h => h
          apply Exists.intro
          apply And.intro
          · first | exact yk_skip (by rfl) | (apply yk_run; rfl; intro w' hw'; go_simp; (try with_reducible rfl))
          simp only [Act.put, List.setIfInBounds_toArray, List.set_cons_zero, List.set_cons_succ]
          apply wpK_next 10 (some 61)
          · simp only [List.getElem?_toArray, List.getElem?_cons_succ, List.getElem?_cons_zero]; exact rfl
          · rfl
          · kernel_rfl
          · kernel_rfl
          · kernel_rfl
          · exact fun _ _ _ _ h => h
          apply Exists.intro
          apply And.intro
          · first | exact yk_skip (by rfl) | (apply yk_run; rfl; intro w' hw'; go_simp; (try with_reducible rfl))
          simp only [Act.put, List.setIfInBounds_toArray, List.set_cons_zero, List.set_cons_succ]
          apply wpK_next 11 (some 62)
          · simp only [List.getElem?_toArray, List.getElem?_cons_succ, List.getElem?_cons_zero]; exact rfl
          · rfl
          · kernel_rfl
          · kernel_rfl
          · kernel_rfl
          · exact fun _ _ _ _ h => h
          apply Exists.intro
          apply And.intro
          · first | exact yk_skip (by rfl) | (apply yk_run; rfl; intro w' hw'; go_simp; (try with_reducible rfl))
          simp only [Act.put, List.setIfInBounds_toArray, List.set_cons_zero, List.set_cons_succ]
          apply wpK_next 12 (some 63)
          · simp only [List.getElem?_toArray, List.getElem?_cons_succ, List.getElem?_cons_zero]; exact rfl
          · rfl
          · kernel_rfl
          · kernel_rfl
          · kernel_rfl
          · exact fun _ _ _ _ h => h
          apply Exists.intro
          apply And.intro
          · first | exact yk_skip (by rfl) | (apply yk_run; rfl; intro w' hw'; go_simp; (try with_reducible rfl))
          simp only [Act.put, List.setIfInBounds_toArray, List.set_cons_zero, List.set_cons_succ]
          apply wpK_next 13 (some 64)
          · simp only [List.getElem?_toArray, List.getElem?_cons_succ, List.getElem?_cons_zero]; exact rfl
          · rfl
          · kernel_rfl
          · kernel_rfl
          · kernel_rfl
          · exact fun _ _ _ _ h => h
          apply Exists.intro
          apply And.intro
          · first | exact yk_skip (by rfl) | (apply yk_run; rfl; intro w' hw'; go_simp; (try with_reducible rfl))
          simp only [Act.put, List.setIfInBounds_toArray, List.set_cons_zero, List.set_cons_succ]
          apply wpK_next 14 (some 65)
          · simp only [List.getElem?_toArray, List.getElem?_cons_succ, List.getElem?_cons_zero]; exact rfl
          · rfl
          · kernel_rfl
          · kernel_rfl
          · kernel_rfl
          · exact fun _ _ _ _ h => h
          apply Exists.intro
          apply And.intro
          · first | exact yk_skip (by rfl) | (apply yk_run; rfl; intro w' hw'; go_simp; (try with_reducible rfl))
          simp only [Act.put, List.setIfInBounds_toArray, List.set_cons_zero, List.set_cons_succ]
          apply wpK_next 15 (some 66)
          · simp only [List.getElem?_toArray, List.getElem?_cons_succ, List.getElem?_cons_zero]; exact rfl
          · rfl
          · kernel_rfl
          · kernel_rfl
          · kernel_rfl
          · exact fun _ _ _ _ h => h
          apply Exists.intro
          apply And.intro
          · first | exact yk_skip (by rfl) | (apply yk_run; rfl; intro w' hw'; go_simp; (try with_reducible rfl))
          simp only [Act.put, List.setIfInBounds_toArray, List.set_cons_zero, List.set_cons_succ]
          apply wpK_next 16 (some 67)
          · simp only [List.getElem?_toArray, List.getElem?_cons_succ, List.getElem?_cons_zero]; exact rfl
          · rfl
          · kernel_rfl
          · kernel_rfl
          · kernel_rfl
          · exact fun _ _ _ _ h => h
          apply Exists.intro
          apply And.intro
          · first | exact yk_skip (by rfl) | (apply yk_call; rfl; rotate_left; intro w' _; exact HM w'; intro w'; go_simp)
          simp only [Act.put, List.setIfInBounds_toArray, List.set_cons_zero, List.set_cons_succ]
          apply wpK_next 17 (some 68)
          · simp only [List.getElem?_toArray, List.getElem?_cons_succ, List.getElem?_cons_zero]; exact rfl
          · rfl
          · kernel_rfl
          · kernel_rfl
          · kernel_rfl
          · exact fun _ _ _ _ h => h
          apply Exists.intro
          apply And.intro
          · first | exact yk_skip (by rfl) | (apply yk_run; rfl; intro w' hw'; go_simp; (try with_reducible rfl))
          simp only [Act.put, List.setIfInBounds_toArray, List.set_cons_zero, List.set_cons_succ]
          apply wpK_next 18 (some 69)
          · simp only [List.getElem?_toArray, List.getElem?_cons_succ, List.getElem?_cons_zero]; exact rfl
          · rfl
          · kernel_rfl
          · kernel_rfl
          · kernel_rfl
          · exact fun _ _ _ _ h => h
          apply Exists.intro
          apply And.intro
          · first | exact yk_skip (by rfl) | (apply yk_run; rfl; intro w' hw'; go_simp; (try with_reducible rfl))
          simp only [Act.put, List.setIfInBounds_toArray, List.set_cons_zero, List.set_cons_succ]
          refine wpK_done (by kernel_rfl) ?_ _
          intro w' hw'
          have hM' := (hM.up (show Ext wq wq.drew from (Below.refl _ _).drew)).up hw'
          have y0 := z0 w' hw'
          have y1 := z1 w' hw'
          clear z0 z1 z2 z3 e0 e1 e2 e3
          have hwB := hb1.size
          have hzz := hM'.o
          go_wp2_with (at_builtin; (refine wpList_append_rds rfl (.tmp 70) (.tmp 72) _ rfl w1.heap.size 23 j0 (.agg #[.int .i64 0, .int .i64 0]) 2 16 Try.underlying35 hj hy0 hy1 hy2 rfl (by decide) (.slice Ao own.length co) own.length (namesV own) rfl (by exact own_up hM'.o (below1 _ _)) (w'.heap.size + 1) (some ⟨w'.heap.size, 0, none⟩) 1 1 [.int .i64 s, .int .i64 (q + 1)] rfl (by exact RdS.new_ rfl (by omega) rfl rfl) (by simp [Value.oneCell']) (by unfold maxLen; omega) (by omega) (by have := hM'.c.lt; simp; omega) ?_); intro v' z ho hg hat)
          go_roundw
          case rel => exact ⟨k + 1, own ++ [((s : Int), q + 1)], by omega, by omega, by go_num, by
            have hp := NexMid.push (hM'.up (below1 _ _)) hI HTS.out h1 h8 HQ.out h40 ho hg hwB
            simpa using hp⟩
          case measure => simp [intOf]; omega
      · go_wp2
        go_ret
        exact ⟨rfl, hI.b⟩
    · go_wp2
      go_ret
      exact ⟨rfl, hI.b⟩
end Go.Proofs.Ytedihfggijcciaa
