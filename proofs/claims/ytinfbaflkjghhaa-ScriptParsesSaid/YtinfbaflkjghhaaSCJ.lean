/- 'ScriptParses' answers true for every text.
   No condition beyond the row's own. -/
import Derived.RangeFuncNested
import Derived.RangeFuncBound
import Derived.RangeFuncCalls
import Derived.RangeFuncLeaves
import Derived.Shelf.Abstract
import Derived.Shelf.RegionOpen
import Derived.WalkKit
import Derived.OwnWalkIn
import Derived.TacticsInMore
import Derived.LoopNIn
import Derived.LoopIn
import Derived.Sort.CutIn
import Derived.Test.YtinfbaflkjghhaaSCI
import Derived.Test.YtinfbaflkjghhaaSCA
import Derived.Test.YtinfbaflkjghhaaSCD
import Derived.Test.YtinfbaflkjghhaaSCH
import Derived.Test.YtinfbaflkjghhaaRows
/- script.Parse walked. -/
set_option linter.unusedSimpArgs false
set_option linter.unusedVariables false
namespace Go.Proofs.Ytinfbaflkjghhaa
open Go.RowKit
attribute [local go_sem] Oper.semAt_some
theorem gives_rd {w w' : World} {k1 k2 k3 k4 : Int} {ok : Bool} {V : List OpT} {e : Ending} (h : GivesRd w ((k1, k2, k3, k4), V) ok e w') : ∃ A n c, e = .returned (.tuple #[.agg #[.int .i64 k1, .int .i64 k2, .int .i64 k3, .int .i64 k4, .slice A n c], .bool ok]) ∧ n = V.length ∧ w'.ownsRow w.heap.size 53 20 (.slice A n c) n (rowsV opCells V) ∧ Below w.heap.size w w' := by
  obtain ⟨A, n, c, h1, h2, h3, h4⟩ := h
  exact ⟨A, n, c, h1, h2, h3, h4⟩
theorem PIn.abs {w : World} {b0 b1 b2 b3 lo : Nat} {pre : List (List Nat)} {V V' : World} {r : Option Nat} (h : PIn w b0 b1 b2 b3 lo pre V) (hg : V.grownBy V' r) (hr : ∀ q, r = some q → b0 < q ∧ b1 < q ∧ b2 < q ∧ b3 < q ∧ q < lo ∧ w.heap.size ≤ q) : PIn w b0 b1 b2 b3 lo pre V' := by
  obtain ⟨A, c, Ts, h1, h2, h3, h4⟩ := h.out
  refine ⟨h.r0.at_ (hg.block _ h.r0.lt (fun e => by have := hr _ e.symm; omega)), h.r1.at_ (hg.block _ h.r1.lt (fun e => by have := hr _ e.symm; omega)), h.r2.at_ (hg.block _ h.r2.lt (fun e => by have := hr _ e.symm; omega)), ⟨A, c, Ts, h1.at_ (hg.block _ h1.lt (fun e => by have := hr _ e.symm; omega)), ⟨own_far h2.row hg (fun q e => (hr q e).2.2.2.2.1), fun s hs => own_far (h2.each s hs) hg (fun q e => (hr q e).2.2.2.2.1)⟩, h3, h4⟩, h.good, ?_⟩
  exact h.below.grown hg h.below.size (fun k e => by have := hr k e; omega)
set_option maxRecDepth 100000 in
set_option maxHeartbeats 4000000 in
theorem parse_any (l : List Nat) (w : World) (hb : ∀ b ∈ l, b < 256) (hl : l.length ≤ 100000) : Calls Try.prog 17 #[.string (txt l)] w (GivesL w (parS l)) := by
  obtain ⟨iS, hiS, zS0, zS1, zS2⟩ := info_parts_ info_stp
  have hts : (txt l).size = l.length := txt_size l
  have HN := Lib.hid (numb_any l)
  have HIt := Lib.hid (fun (bn : Nat) (K T : Nat → Prop) (W : World) => numb_its bn l hb (by omega) K T W)
  have HC : RowKit.Hid (∀ W, Calls Try.prog 32 #[.string (txt l), .string { data := #[10] }] W fun e w' => e = .returned (.int .i64 ((l.count 10 : Nat) : Int)) ∧ w' = W) := Lib.hid (fun W => by
    refine (Try.strings_Count_one (txt l) 10 W).mono ?_
    rintro e w' ⟨rfl, rfl⟩
    rw [txt_data, cnt_ten l hb]
    exact ⟨rfl, rfl⟩)
  have HM : RowKit.Hid (∀ x ∈ lns [] l, (∀ b ∈ x, b < 256) ∧ x.length ≤ 100000 ∧ ((∃ a, x = a ++ [10]) ∨ ¬ 10 ∈ x)) := Lib.hid (fun x hx => by
    obtain ⟨h1, h2, h3⟩ := lns_mem l [] (fun b h => by cases h) hb x hx
    exact ⟨h1, by simp at h2; omega, h3⟩)
  have HMl : RowKit.Hid ((lns [] l).length ≤ 100000) := Lib.hid (Nat.le_trans (lns_len l []) (by simpa using hl))
  have HP0 : RowKit.Hid (parS l = if l.length > 65536 ∨ l.count 10 > 2048 then ([], 0, 3) else prT (lns [] l) []) := Lib.hid rfl
  obtain ⟨t, gt⟩ : ∃ z, txt l = z := ⟨_, rfl⟩
  obtain ⟨R, gR⟩ : ∃ z, parS l = z := ⟨_, rfl⟩
  obtain ⟨LL, gLL⟩ : ∃ z, lns [] l = z := ⟨_, rfl⟩
  obtain ⟨cn, gcn⟩ : ∃ z, l.count 10 = z := ⟨_, rfl⟩
  rw [gt] at hts HN HC HIt ⊢
  rw [gR] at HP0 ⊢
  rw [gLL] at HIt HM HMl HP0
  rw [gcn] at HC HP0
  rw [← hts] at HP0
  have hcl : cn ≤ 100000 := by rw [← gcn]; exact Nat.le_trans List.count_le_length hl
  have htl : t.size ≤ 100000 := by omega
  clear gt gR gLL gcn hts hb hl
  refine (callsIn_wide (n := 0)).1 ?_
  refine callsIn_of_wp_marks Try.func17 rfl trivial ?_
  simp only [Try.ntmps17, List.size_toArray, List.length_cons, List.length_nil, Nat.reduceAdd, Nat.reduceSub, Array.replicate_succ, Array.replicate_zero, List.push_toArray, List.append_toArray, List.nil_append, List.cons_append]
  refine wpIn_wide.2 ?_
  go_upto_region 1 with fail
  have hx0 : Whole (((w.alloc (.cells #[.slice none 0 0] 22)).alloc (.cells #[.int .i64 0] 3)).alloc (.cells #[.int .i64 0] 31)) (w.heap.size) 22 [.slice none 0 0] := (((Whole.new_ w 22 [.slice none 0 0]).alloc (.cells #[.int .i64 0] 3)).alloc (.cells #[.int .i64 0] 31))
  have hx1 : Whole (((w.alloc (.cells #[.slice none 0 0] 22)).alloc (.cells #[.int .i64 0] 3)).alloc (.cells #[.int .i64 0] 31)) (w.heap.size + 1) 3 [.int .i64 0] := ((Whole.new2 (w := (w.alloc (.cells #[.slice none 0 0] 22))) (by simp)).alloc (.cells #[.int .i64 0] 31))
  have hx2 : Whole (((w.alloc (.cells #[.slice none 0 0] 22)).alloc (.cells #[.int .i64 0] 3)).alloc (.cells #[.int .i64 0] 31)) (w.heap.size + 1 + 1) 31 [.int .i64 0] := (Whole.new2 (w := ((w.alloc (.cells #[.slice none 0 0] 22)).alloc (.cells #[.int .i64 0] 3))) (by simp))
  have hbl : Below w.heap.size w (((w.alloc (.cells #[.slice none 0 0] 22)).alloc (.cells #[.int .i64 0] 3)).alloc (.cells #[.int .i64 0] 31)) := (bel_al (bel_al (below1 w (.cells #[.slice none 0 0] 22)) (.cells #[.int .i64 0] 3)) (.cells #[.int .i64 0] 31))
  have hsz : w.heap.size + 1 + 1 + 1 ≤ ((((w.alloc (.cells #[.slice none 0 0] 22)).alloc (.cells #[.int .i64 0] 3)).alloc (.cells #[.int .i64 0] 31))).heap.size := by simp
  obtain ⟨W0, gW0⟩ : ∃ z, (((w.alloc (.cells #[.slice none 0 0] 22)).alloc (.cells #[.int .i64 0] 3)).alloc (.cells #[.int .i64 0] 31)) = z := ⟨_, rfl⟩
  rw [gW0] at hx0 hx1 hx2 hbl hsz
  obtain ⟨b2, gb2⟩ : ∃ z, w.heap.size + 1 + 1 = z := ⟨_, rfl⟩
  rw [gb2] at hx2
  obtain ⟨b1, gb1⟩ : ∃ z, w.heap.size + 1 = z := ⟨_, rfl⟩
  rw [gb1] at hx1
  obtain ⟨b0, gb0⟩ : ∃ z, w.heap.size = z := ⟨_, rfl⟩
  rw [gb0] at hx0
  have HX0 := Lib.hid hx0
  have HX1 := Lib.hid hx1
  have HX2 := Lib.hid hx2
  have HB0 := Lib.hid hbl
  have HS0 := Lib.hid hsz
  have Gb0 := Lib.hid gb0
  have Lb0 : RowKit.Hid (w.heap.size ≤ b0) := Lib.hid (by omega)
  have Gb1 := Lib.hid gb1
  have Lb1 : RowKit.Hid (w.heap.size ≤ b1) := Lib.hid (by omega)
  have Gb2 := Lib.hid gb2
  have Lb2 : RowKit.Hid (w.heap.size ≤ b2) := Lib.hid (by omega)
  have N01 : RowKit.Hid (b0 ≠ b1) := Lib.hid (by omega)
  have N02 : RowKit.Hid (b0 ≠ b2) := Lib.hid (by omega)
  have N12 : RowKit.Hid (b1 ≠ b2) := Lib.hid (by omega)
  rw [gW0, gb2, gb1, gb0]
  clear gW0 hbl hsz hx0 hx1 hx2 gb0 gb1 gb2
  by_cases hbig : t.size > 65536 ∨ cn > 2048
  · have HR : RowKit.Hid (R = ([], 0, 3)) := Lib.hid (by rw [HP0.out, if_pos hbig])
    have c0 := HX0.out.cell (i := 0) rfl
    have c1 := HX1.out.cell (i := 0) rfl
    have c2 := HX2.out.cell (i := 0) rfl
    have f0 := HX0.out.free 0
    have f1 := HX1.out.free 0
    have f2 := HX2.out.free 0
    have q1 := (HX1.out.far (p := ⟨b0, 0, none⟩) N01.out.symm (.slice none 0 0)).cell (i := 0) rfl
    have g1 := (HX1.out.far (p := ⟨b0, 0, none⟩) N01.out.symm (.slice none 0 0)).free 0
    have q2 := ((HX2.out.far (p := ⟨b0, 0, none⟩) N02.out.symm (.slice none 0 0)).far (p := ⟨b1, 0, none⟩) N12.out.symm (.int .i64 0)).cell (i := 0) rfl
    have g2 := ((HX2.out.far (p := ⟨b0, 0, none⟩) N02.out.symm (.slice none 0 0)).far (p := ⟨b1, 0, none⟩) N12.out.symm (.int .i64 0)).free 0
    have HZ0 := Lib.hid (((HX0.out.set_ 0 (.slice none 0 0)).far (p := ⟨b1, 0, none⟩) N01.out (.int .i64 0)).far (p := ⟨b2, 0, none⟩) N02.out (.int .i64 3))
    have HZ1 := Lib.hid (((HX1.out.far (p := ⟨b0, 0, none⟩) N01.out.symm (.slice none 0 0)).set_ 0 (.int .i64 0)).far (p := ⟨b2, 0, none⟩) N12.out (.int .i64 3))
    have HZ2 := Lib.hid (((HX2.out.far (p := ⟨b0, 0, none⟩) N02.out.symm (.slice none 0 0)).far (p := ⟨b1, 0, none⟩) N12.out.symm (.int .i64 0)).set_ 0 (.int .i64 3))
    have HZB := Lib.hid (((HB0.out.setCell (p := ⟨b0, 0, none⟩) Lb0.out (.slice none 0 0)).setCell (p := ⟨b1, 0, none⟩) Lb1.out (.int .i64 0)).setCell (p := ⟨b2, 0, none⟩) Lb2.out (.int .i64 3))
    clear HX0 HX1 HX2 HB0 HS0 HIt HN HM HMl HP0
    by_cases h1 : 65536 < t.size
    · have h1I : (65536 : Int) < (t.size : Int) := by omega
      clear hbig HC
      go_wp2
      refine ⟨_, res3_ rfl rfl rfl rfl HZ0.out HZ1.out HZ2.out, ?_⟩
      rw [HR.out]
      exact ⟨none, 0, 0, [], rfl, rfl, ⟨World.ownsRow_nil _ _ _ _, fun s hs => (by cases hs)⟩, fun s hs => (by cases hs), HZB.out⟩
    · have h1I : ¬ (65536 : Int) < (t.size : Int) := by omega
      have h2I : (2048 : Int) < (cn : Int) := by omega
      clear hbig
      go_wp2_with (go_at_call 32; refine (HC.out _).mono ?_; rintro e w' ⟨rfl, hww⟩; rw [hww]; clear hww w')
      refine ⟨_, res3_ rfl rfl rfl rfl HZ0.out HZ1.out HZ2.out, ?_⟩
      rw [HR.out]
      exact ⟨none, 0, 0, [], rfl, rfl, ⟨World.ownsRow_nil _ _ _ _, fun s hs => (by cases hs)⟩, fun s hs => (by cases hs), HZB.out⟩
  · have HR : RowKit.Hid (R = prT LL []) := Lib.hid (by rw [HP0.out, if_neg hbig])
    have h1I : ¬ (65536 : Int) < (t.size : Int) := by omega
    have h2I : ¬ (2048 : Int) < (cn : Int) := by omega
    clear hbig HP0
    have hX3 := Whole.new_ W0 22 [.slice none 0 0]
    have HY0 := Lib.hid (HX0.out.al (.cells #[.slice none 0 0] 22))
    have HY1 := Lib.hid (HX1.out.al (.cells #[.slice none 0 0] 22))
    have HY2 := Lib.hid (HX2.out.al (.cells #[.slice none 0 0] 22))
    have HYB := Lib.hid (bel_al HB0.out (.cells #[.slice none 0 0] 22))
    have Hne3 : RowKit.Hid (b0 < W0.heap.size ∧ b1 < W0.heap.size ∧ b2 < W0.heap.size ∧ w.heap.size ≤ W0.heap.size) := Lib.hid ⟨HX0.out.lt, HX1.out.lt, HX2.out.lt, HB0.out.size⟩
    go_upto_region 4 with (go_at_call 32; refine (HC.out _).mono ?_; rintro e w' ⟨rfl, hww⟩; rw [hww]; clear hww w')
    obtain ⟨W1, gW1⟩ : ∃ z, W0.alloc (.cells #[.slice none 0 0] 22) = z := ⟨_, rfl⟩
    have hsz1 : W1.heap.size = W0.heap.size + 1 := by rw [← gW1]; simp
    obtain ⟨b3, gb3⟩ : ∃ z, W0.heap.size = z := ⟨_, rfl⟩
    rw [gW1] at hX3 HY0 HY1 HY2 HYB ⊢
    rw [gb3] at hX3 Hne3 hsz1 ⊢
    have HY3 := Lib.hid hX3
    clear gW1 gb3 hX3 HX0 HX1 HX2 HB0 HS0 HC
    have hn2 := HN.out W1
    go_wp2_with (go_at_call 33; refine hn2.mono ?_; rintro e w' ⟨rfl, hww⟩; rw [hww]; clear hww w')
    have HU0 := Lib.hid (HY0.out.al (.cells #[.string t] 9))
    have HU1 := Lib.hid (HY1.out.al (.cells #[.string t] 9))
    have HU2 := Lib.hid (HY2.out.al (.cells #[.string t] 9))
    have HU3 := Lib.hid (HY3.out.al (.cells #[.string t] 9))
    have HUB := Lib.hid (bel_al HYB.out (.cells #[.string t] 9))
    have HUn := Lib.hid (Whole.new_ W1 9 [.string t])
    have hszn : (W1.alloc (.cells #[.string t] 9)).heap.size = b3 + 2 := by rw [World.size_alloc, hsz1]
    obtain ⟨W2, gW2⟩ : ∃ z, W1.alloc (.cells #[.string t] 9) = z := ⟨_, rfl⟩
    rw [hsz1] at HUn
    rw [gW2] at HU0 HU1 HU2 HU3 HUB HUn hszn ⊢
    clear gW2 HY0 HY1 HY2 HY3 HYB hn2 HN hsz1
    obtain ⟨bn, gbn⟩ : ∃ z, b3 + 1 = z := ⟨_, rfl⟩
    rw [gbn] at HUn ⊢
    obtain ⟨b, gb⟩ : ∃ z, b3 + 2 = z := ⟨_, rfl⟩
    have Hb := Lib.hid gb
    rw [gb] at hszn
    have hP0 : PIn w b0 b1 b2 b3 (b + 7) [] W2 := ⟨HU0.out, HU1.out, HU2.out, ⟨none, 0, [], HU3.out, ⟨World.ownsRow_nil _ _ _ _, fun s hs => (by cases hs)⟩, rfl, fun s hs => (by cases hs)⟩, fun x hx => (by cases hx), HUB.out⟩
    have hls : ∀ q, (b + 2 ≤ q ∧ q ≤ b + 6 ∨ q = b ∨ q = b + 1) → b0 < q ∧ b1 < q ∧ b2 < q ∧ b3 < q ∧ q < b + 7 ∧ w.heap.size ≤ q := fun q hq => by have := Hne3.out; have := Hb.out; omega
    have Hls := Lib.hid hls
    refine (wpIn_wide (n := 0)).1 ?_
    rw [← hszn] at Hb Hls hP0
    refine wpIn_roundS (gf := 53) (lb := #[.pointer (some ⟨bn, 0, none⟩)]) rfl (enters_of Try.func53 (by kernel_rfl) rfl) (encs := fun (pre : List (List Nat)) x => #[.int .i64 ((pre.length + 1 : Nat) : Int), .string (txt x)]) (fun _ _ => rfl) (fun i => W2.heap.size + 2 ≤ i ∧ i ≤ W2.heap.size + 6) (fun i => W2.heap.size + 2 ≤ i ∧ i ≤ W2.heap.size + 6) (by omega) (by omega)
      (fun r => HIt.out bn _ _ _ (fun i h1 h2 => by simp only [World.size_alloc] at h1 h2; omega) (fun i h1 h2 => by simp only [World.size_alloc] at h1 h2; omega) (fun i h => by simp only [World.size_alloc]; omega) ((HUn.out.al _).al _))
      (fun p V => PIn w b0 b1 b2 b3 (W2.heap.size + 7) p V)
      (fun p x a' V => a' = { tmps := #[.string t, undef, .pointer (some ⟨b0, 0, none⟩), .pointer (some ⟨b1, 0, none⟩), .pointer (some ⟨b2, 0, none⟩), .pointer (some ⟨b3, 0, none⟩), .int .i64 ((p.length + 1 : Nat) : Int), .string (txt x), undef, undef, .string t, .int .i64 (t.size : Int), .bool false, .bool false, .string t, .int .i64 (cn : Int), .bool (decide ((2048 : Int) < (cn : Int))), .bool (decide ((2048 : Int) < (cn : Int))), .string t, .func (.func 53) #[] #[.pointer (some ⟨bn, 0, none⟩)], .int .i64 ((p.length + 1 : Nat) : Int), .string (txt x), undef, undef, undef, undef, undef, undef, undef, undef, undef, undef, undef, undef, undef], defers := [] } ∧ PIn w b0 b1 b2 b3 (W2.heap.size + 7) p V)
      (fun k p V => k = .ret ∧ Whole V b0 22 [.slice none 0 0] ∧ Whole V b1 3 [.int .i64 ((p.length : Nat) : Int)] ∧ Whole V b2 31 [.int .i64 240] ∧ R = ([], p.length, 240) ∧ Below w.heap.size w V)
      (fun p A B r h hg hr => h.abs hg (fun q e => Hls.out q (hr q e)))
      (fun p x a' A B r h hg hr => ⟨h.1, h.2.abs hg (fun q e => Hls.out q (.inr (.inr (hr q e))))⟩)
      (fun k p A B r h hg hr => ⟨h.1, h.2.1.at_ (hg.block _ h.2.1.lt (fun e => by have := Hls.out _ (hr _ e.symm); omega)), h.2.2.1.at_ (hg.block _ h.2.2.1.lt (fun e => by have := Hls.out _ (hr _ e.symm); omega)), h.2.2.2.1.at_ (hg.block _ h.2.2.2.1.lt (fun e => by have := Hls.out _ (hr _ e.symm); omega)), h.2.2.2.2.1, h.2.2.2.2.2.grown hg h.2.2.2.2.2.size (fun k e => by have := Hls.out k (hr k e); omega)⟩)
      hP0 ?assign ?body ?done ?stop
    case assign =>
      intro l' pre x V R hi hpre hsz3 hT3 hKK
      obtain ⟨K, gK⟩ : ∃ z : Int, ((pre.length + 1 : Nat) : Int) = z := ⟨_, rfl⟩
      rw [gK]
      gi_wp2
      exact hKK _ _ (KpS.refl _ _) ⟨by rw [gK], hi⟩
    case body =>
      rintro l' pre x a' V ⟨rfl, hP⟩ hpre hsz3 hT3
      have hxL : x ∈ LL := hpre.subset (by simp)
      obtain ⟨hb1, hl1, hf1⟩ := HM.out x hxL
      have HRd := Lib.hid (fun W => readx_any x W hb1 hl1 hf1)
      have hkm : pre.length ≤ 100000 := by have h1 := hpre.length_le; have h2 := HMl.out; rw [List.length_append] at h1; omega
      have hv6 : W2.heap.size + 6 < V.heap.size := hT3 _ (by omega)
      have Hng : RowKit.Hid (lrO x = false → R = ([], (pre ++ [x]).length, 240)) := Lib.hid (fun h => by
        obtain ⟨S, gS⟩ := hpre
        have e := prT_app (x :: S) pre [] hP.good
        rw [HR.out, ← gS, List.append_assoc, List.singleton_append, e, prT, h, if_neg (by decide)]
        simp)
      obtain ⟨A, c, Ts, h1, h2, h3, h4⟩ := hP.out
      have HP := Lib.hid hP
      have HT := Lib.hid (And.intro h3 h4)
      have HSw := Lib.hid h2
      have HO := Lib.hid h1
      obtain ⟨u, gu⟩ : ∃ z, txt x = z := ⟨_, rfl⟩
      rw [gu] at HRd ⊢
      obtain ⟨k, gk⟩ : ∃ z, pre.length = z := ⟨_, rfl⟩
      rw [gk] at HO HSw hkm ⊢
      obtain ⟨Kn, gKn⟩ : ∃ z : Int, ((k + 1 : Nat) : Int) = z := ⟨_, rfl⟩
      rw [gKn]
      have HK := Lib.hid gKn
      have Hk := Lib.hid gk
      obtain ⟨X, gX⟩ : ∃ z, lrV x = z := ⟨_, rfl⟩
      obtain ⟨ok, gok⟩ : ∃ z, lrO x = z := ⟨_, rfl⟩
      have HX := Lib.hid gX
      have Hok := Lib.hid gok
      rw [gX, gok] at HRd
      rw [gok] at Hng
      obtain ⟨⟨x1, x2, x3, x4⟩, L⟩ := X
      clear hP hxL hb1 hl1 hf1 h1 h2 h3 h4 gu gk gKn gX gok
      gi_wp2_with fail
      refine ⟨trivial, rfl, CallsIn.inRound l' (callsIn_wide.2 ((HRd.out V).mono ?_))⟩
      rintro e W3 hg
      obtain ⟨A4, n4, c4, rfl, hn4, ho4, hb4⟩ := gives_rd hg
      clear hg
      have hb5 := bel_al hb4 (.cells #[.int .i64 x1, .int .i64 x2, .int .i64 x3, .int .i64 x4, .slice A4 n4 c4] 30)
      have hg8 : Whole (W3.alloc (.cells #[.int .i64 x1, .int .i64 x2, .int .i64 x3, .int .i64 x4, .slice A4 n4 c4] 30)) W3.heap.size 30 [.int .i64 x1, .int .i64 x2, .int .i64 x3, .int .i64 x4, .slice A4 n4 c4] := Whole.new_ _ _ [_, _, _, _, _]
      have HI5 := Lib.hid (own_lo8 (B' := W2.heap.size + 7) (own_up ho4 (below1 W3 (.cells #[.int .i64 x1, .int .i64 x2, .int .i64 x3, .int .i64 x4, .slice A4 n4 c4] 30))) (by omega))
      have hgn : V.grownBy (W3.alloc (.cells #[.int .i64 x1, .int .i64 x2, .int .i64 x3, .int .i64 x4, .slice A4 n4 c4] 30)) none := ⟨hb5.os, hb5.tape, hb5.output, hb5.size, fun i hi _ => hb5.block i hi⟩
      have HP5 := Lib.hid (HP.out.abs hgn (fun q e => by cases e))
      have HK5 : RowKit.Hid (KpS (fun i => (W2.heap.size + 2 ≤ i ∧ i ≤ W2.heap.size + 6) ∨ i = W2.heap.size ∨ i = W2.heap.size + 1) V (W3.alloc (.cells #[.int .i64 x1, .int .i64 x2, .int .i64 x3, .int .i64 x4, .slice A4 n4 c4] 30))) := Lib.hid ⟨hb5.size, fun i hi _ => hb5.block i hi⟩
      have HO5 := Lib.hid (HO.out.at_ (hgn.block _ HO.out.lt (fun e => by cases e)))
      have HS5 : RowKit.Hid (StW (W2.heap.size + 7) (W3.alloc (.cells #[.int .i64 x1, .int .i64 x2, .int .i64 x3, .int .i64 x4, .slice A4 n4 c4] 30)) (.slice A k c) k Ts) := Lib.hid (HSw.out.up hb5)
      have HL4 := Lib.hid hn4
      have Hv6 : RowKit.Hid (W2.heap.size + 7 ≤ (W3.alloc (.cells #[.int .i64 x1, .int .i64 x2, .int .i64 x3, .int .i64 x4, .slice A4 n4 c4] 30)).heap.size) := Lib.hid (Nat.le_trans (by omega) hb5.size)
      clear hb4 hb5 ho4 hn4 hgn HP HO HSw HRd hv6 hsz3 hT3
      gi_upto_region 8 with fail
      obtain ⟨W5, gW5⟩ : ∃ z, W3.alloc (.cells #[.int .i64 x1, .int .i64 x2, .int .i64 x3, .int .i64 x4, .slice A4 n4 c4] 30) = z := ⟨_, rfl⟩
      obtain ⟨g8, gg8⟩ : ∃ z, W3.heap.size = z := ⟨_, rfl⟩
      rw [gW5] at hg8 HI5 HP5 HK5 HO5 HS5 Hv6 ⊢
      rw [gg8] at hg8 ⊢
      have HG8 := Lib.hid hg8
      have Hszn := Lib.hid hszn
      clear gW5 gg8 hg8 hszn hP0
      cases ok with
      | false =>
        have HRn := Lib.hid (Hng.out rfl)
        have c0 := HP5.out.r0.cell (i := 0) rfl
        have f0 := HP5.out.r0.free 0
        have q1 := (HP5.out.r1.far (p := ⟨b0, 0, none⟩) N01.out.symm (.slice none 0 0)).cell (i := 0) rfl
        have g1 := (HP5.out.r1.far (p := ⟨b0, 0, none⟩) N01.out.symm (.slice none 0 0)).free 0
        have q2 := ((HP5.out.r2.far (p := ⟨b0, 0, none⟩) N02.out.symm (.slice none 0 0)).far (p := ⟨b1, 0, none⟩) N12.out.symm (.int .i64 Kn)).cell (i := 0) rfl
        have g2 := ((HP5.out.r2.far (p := ⟨b0, 0, none⟩) N02.out.symm (.slice none 0 0)).far (p := ⟨b1, 0, none⟩) N12.out.symm (.int .i64 Kn)).free 0
        have HZ0 := Lib.hid (((HP5.out.r0.set_ 0 (.slice none 0 0)).far (p := ⟨b1, 0, none⟩) N01.out (.int .i64 Kn)).far (p := ⟨b2, 0, none⟩) N02.out (.int .i64 240))
        have HZ1 := Lib.hid (((HP5.out.r1.far (p := ⟨b0, 0, none⟩) N01.out.symm (.slice none 0 0)).set_ 0 (.int .i64 Kn)).far (p := ⟨b2, 0, none⟩) N12.out (.int .i64 240))
        have HZ2 := Lib.hid (((HP5.out.r2.far (p := ⟨b0, 0, none⟩) N02.out.symm (.slice none 0 0)).far (p := ⟨b1, 0, none⟩) N12.out.symm (.int .i64 Kn)).set_ 0 (.int .i64 240))
        have HZB := Lib.hid (((HP5.out.below.setCell (p := ⟨b0, 0, none⟩) Lb0.out (.slice none 0 0)).setCell (p := ⟨b1, 0, none⟩) Lb1.out (.int .i64 Kn)).setCell (p := ⟨b2, 0, none⟩) Lb2.out (.int .i64 240))
        have HKz := Lib.hid (((HK5.out.trans (KpS.grown (grownBy_setCell' W5 b0 (.slice none 0 0)) (fun r e q => by cases e; have := Hls.out b0 (by omega); omega))).trans (KpS.grown (grownBy_setCell' _ b1 (.int .i64 Kn)) (fun r e q => by cases e; have := Hls.out b1 (by omega); omega))).trans (KpS.grown (grownBy_setCell' _ b2 (.int .i64 240)) (fun r e q => by cases e; have := Hls.out b2 (by omega); omega)))
        have HKn : RowKit.Hid (Kn = (((pre ++ [x]).length : Nat) : Int)) := Lib.hid (by rw [← HK.out, List.length_append, Hk.out]; rfl)
        clear HP5 HK5 HO5 HS5 HI5 HG8 HT HX Hok
        gi_wp2
        exact ⟨HKz.out, rfl, HZ0.out, by rw [← HKn.out]; exact HZ1.out, HZ2.out, HRn.out, HZB.out⟩
      | true =>
        have c3 := HO5.out.cell (i := 0) rfl
        have d0 := HG8.out.cell (i := 0) rfl
        have d1 := HG8.out.cell (i := 1) rfl
        have d2 := HG8.out.cell (i := 2) rfl
        have d3 := HG8.out.cell (i := 3) rfl
        have d4 := HG8.out.cell (i := 4) rfl
        have hC : ∀ j v, [.int .i64 x1, .int .i64 x2, .int .i64 x3, .int .i64 x4, .slice A4 n4 c4][j]? = some v → (W5.alloc (.cells #[.int .i64 x1, .int .i64 x2, .int .i64 x3, .int .i64 x4, .slice A4 n4 c4] 30)).cell? ((⟨W5.heap.size, 0, none⟩ : Addr).add j) = some v := fun j v hj => by
          have e := (Whole.new_ W5 30 [.int .i64 x1, .int .i64 x2, .int .i64 x3, .int .i64 x4, .slice A4 n4 c4]).cell hj
          rw [Addr.add_lit, Nat.zero_add]
          exact e
        have hb1 := HO5.out.al (.cells #[.int .i64 x1, .int .i64 x2, .int .i64 x3, .int .i64 x4, .slice A4 n4 c4] 30)
        have ho1 := own_up HS5.out.row (below1 W5 (.cells #[.int .i64 x1, .int .i64 x2, .int .i64 x3, .int .i64 x4, .slice A4 n4 c4] 30))
        have hne := own_ne ho1 hb1 (by decide)
        have hlw : W2.heap.size + 7 ≤ (W5.alloc (.cells #[.int .i64 x1, .int .i64 x2, .int .i64 x3, .int .i64 x4, .slice A4 n4 c4] 30)).heap.size := by have := Hv6.out; simp; omega
        gi_wp2_with (gi_at_builtin; refine wpListIn_append_own _ rfl _ _ 22 rfl (W2.heap.size + 7) 30 iS _ 5 56 Try.underlying22 hiS zS0 zS1 zS2 rfl (by decide) _ _ _ rfl ho1 ⟨W5.heap.size, 0, none⟩ 1 1 [.int .i64 x1, .int .i64 x2, .int .i64 x3, .int .i64 x4, .slice A4 n4 c4] rfl rfl hC (by simp [Value.oneCell']) (by unfold maxLen; omega) (by omega) hlw ?_; intro v' w1 hown' hgrow _; obtain ⟨g', cap', rfl⟩ := ownsRow_succ hown'; have c1 := (hb1.grown hgrow hne).cell (i := 0) rfl; have f1 := (hb1.grown hgrow hne).free 0)
        have hlo : ∀ q, (Value.slice A k c).ownBlock = some q → W2.heap.size + 7 ≤ q := fun q e => (ho1.lt q e).1
        have hlx : (pre ++ [x]).length = k + 1 := by rw [List.length_append, Hk.out]; rfl
        have hb3 := Hne3.out
        have hlb := Hls.out W2.heap.size (.inr (.inl rfl))
        have hB3 := hb1.grown hgrow hne
        refine ⟨((HK5.out.trans (KpS.grown (World.grownBy_alloc W5 (.cells #[.int .i64 x1, .int .i64 x2, .int .i64 x3, .int .i64 x4, .slice A4 n4 c4] 30) none) (fun r e => by cases e))).trans (KpS.grown hgrow (fun r e q => by have := hlo r e; omega))).trans (KpS.grown (grownBy_setCell' w1 b3 _) (fun r e q => by cases e; omega)), ?_⟩
        refine ⟨((HP5.out.r0.al _).grown hgrow (own_ne ho1 (HP5.out.r0.al _) (by decide))).far (p := ⟨b3, 0, none⟩) (show b0 ≠ b3 by omega) _, ((HP5.out.r1.al _).grown hgrow (own_ne ho1 (HP5.out.r1.al _) (by decide))).far (p := ⟨b3, 0, none⟩) (show b1 ≠ b3 by omega) _, ((HP5.out.r2.al _).grown hgrow (own_ne ho1 (HP5.out.r2.al _) (by decide))).far (p := ⟨b3, 0, none⟩) (show b2 ≠ b3 by omega) _, ⟨some ⟨g', 0, none⟩, cap', Ts ++ [((x1, x2, x3, x4), (A4, n4, c4, L))], ?_, ⟨?_, fun s hs => ?_⟩, ?_, fun s hs => ?_⟩, fun y hy => ?_, ?_⟩
        · rw [hlx]
          exact hB3.set_ 0 _
        · rw [hlx, rowsV_app]
          exact own_cell_far hown' (own_ne hown' hB3 (by decide)) _
        · rcases List.mem_append.1 hs with hs | hs
          · have h9 := own_grow (own_up (HS5.out.each s hs) (below1 W5 (.cells #[.int .i64 x1, .int .i64 x2, .int .i64 x3, .int .i64 x4, .slice A4 n4 c4] 30))) ho1 (by decide) hgrow
            exact own_cell_far h9 (own_ne h9 hB3 (by decide)) _
          · obtain rfl := List.mem_singleton.1 hs
            have h9 := own_grow (own_up HI5.out (below1 W5 (.cells #[.int .i64 x1, .int .i64 x2, .int .i64 x3, .int .i64 x4, .slice A4 n4 c4] 30))) ho1 (by decide) hgrow
            exact own_cell_far h9 (own_ne h9 hB3 (by decide)) _
        · rw [List.map_append, List.map_append, HT.out.1, List.map_singleton, List.map_singleton, HX.out]
          rfl
        · rcases List.mem_append.1 hs with hs | hs
          · exact HT.out.2 s hs
          · obtain rfl := List.mem_singleton.1 hs
            exact HL4.out
        · rcases List.mem_append.1 hy with hy | hy
          · exact HP5.out.good y hy
          · obtain rfl := List.mem_singleton.1 hy
            exact Hok.out
        · exact ((bel_al HP5.out.below (.cells #[.int .i64 x1, .int .i64 x2, .int .i64 x3, .int .i64 x4, .slice A4 n4 c4] 30)).grown hgrow (by have := HP5.out.below.size; simp; omega) (fun q e => by have := hlo q e; omega)).setCell (p := ⟨b3, 0, none⟩) hb3.2.2.2 _
    case done =>
      intro V h hKd
      obtain ⟨A, c, Ts, h1, h2, h3, h4⟩ := h.out
      have HGd : RowKit.Hid (R = (LL.map lrV, 0, 0)) := Lib.hid (by have e := prT_app [] LL [] h.good; rw [List.append_nil] at e; rw [HR.out, e]; rfl)
      have HRd : RowKit.Hid (R = (LL.map lrV, 0, 0)) := HGd
      have hlb := Hls.out W2.heap.size (.inr (.inl rfl))
      have hb3 := Hne3.out
      have c3 := h1.cell (i := 0) rfl
      have c0 := h.r0.cell (i := 0) rfl
      have f0 := h.r0.free 0
      have q3 := (h1.far (p := ⟨b0, 0, none⟩) (show b3 ≠ b0 by omega) (.slice A LL.length c)).cell (i := 0) rfl
      have q1 := (h.r1.far (p := ⟨b0, 0, none⟩) N01.out.symm (.slice A LL.length c)).cell (i := 0) rfl
      have g1 := (h.r1.far (p := ⟨b0, 0, none⟩) N01.out.symm (.slice A LL.length c)).free 0
      have q2 := ((h.r2.far (p := ⟨b0, 0, none⟩) N02.out.symm (.slice A LL.length c)).far (p := ⟨b1, 0, none⟩) N12.out.symm (.int .i64 0)).cell (i := 0) rfl
      have g2 := ((h.r2.far (p := ⟨b0, 0, none⟩) N02.out.symm (.slice A LL.length c)).far (p := ⟨b1, 0, none⟩) N12.out.symm (.int .i64 0)).free 0
      have hZ0 := ((h.r0.set_ 0 (.slice A LL.length c)).far (p := ⟨b1, 0, none⟩) N01.out (.int .i64 0)).far (p := ⟨b2, 0, none⟩) N02.out (.int .i64 0)
      have hZ1 := ((h.r1.far (p := ⟨b0, 0, none⟩) N01.out.symm (.slice A LL.length c)).set_ 0 (.int .i64 0)).far (p := ⟨b2, 0, none⟩) N12.out (.int .i64 0)
      have hZ2 := ((h.r2.far (p := ⟨b0, 0, none⟩) N02.out.symm (.slice A LL.length c)).far (p := ⟨b1, 0, none⟩) N12.out.symm (.int .i64 0)).set_ 0 (.int .i64 0)
      have hZB := ((h.below.setCell (p := ⟨b0, 0, none⟩) Lb0.out (.slice A LL.length c)).setCell (p := ⟨b1, 0, none⟩) Lb1.out (.int .i64 0)).setCell (p := ⟨b2, 0, none⟩) Lb2.out (.int .i64 0)
      have G0 := grownBy_setCell' V b0 (.slice A LL.length c)
      have G1 := grownBy_setCell' (V.setCell ⟨b0, 0, none⟩ (.slice A LL.length c)) b1 (.int .i64 0)
      have G2 := grownBy_setCell' ((V.setCell ⟨b0, 0, none⟩ (.slice A LL.length c)).setCell ⟨b1, 0, none⟩ (.int .i64 0)) b2 (.int .i64 0)
      have hsV : W2.heap.size < V.heap.size := (Array.getElem?_eq_some_iff.1 hKd).1
      have hK1 := (G0.block W2.heap.size hsV (fun e => by cases e; omega)).trans hKd
      have hK2 := (G1.block W2.heap.size (Nat.lt_of_lt_of_le hsV G0.size) (fun e => by cases e; omega)).trans hK1
      have hK3 := (G2.block W2.heap.size (Nat.lt_of_lt_of_le hsV (Nat.le_trans G0.size G1.size)) (fun e => by cases e; omega)).trans hK2
      have hSt : ∀ {T : TypeId} {kk nn : Nat} {v : Value} {xs : List Value}, V.ownsRow (W2.heap.size + 7) T kk v nn xs → ((((V.setCell ⟨b0, 0, none⟩ (.slice A LL.length c)).setCell ⟨b1, 0, none⟩ (.int .i64 0)).setCell ⟨b2, 0, none⟩ (.int .i64 0)).putObj W2.heap.size (.deferred none)).ownsRow w.heap.size T kk v nn xs := fun hh =>
        own_lo8 (own_far (own_far (own_far (own_far hh G0 (fun q e => by cases e; omega)) G1 (fun q e => by cases e; omega)) G2 (fun q e => by cases e; omega)) (grownBy_putObj' _ _ _) (fun q e => by cases e; omega)) (by omega)
      have HZ0 := Lib.hid (hZ0.at_ (World.putObj_heap_other (o := .deferred none) (show b0 ≠ W2.heap.size by omega)))
      have HZ1 := Lib.hid (hZ1.at_ (World.putObj_heap_other (o := .deferred none) (show b1 ≠ W2.heap.size by omega)))
      have HZ2 := Lib.hid (hZ2.at_ (World.putObj_heap_other (o := .deferred none) (show b2 ≠ W2.heap.size by omega)))
      have HZB := Lib.hid (hZB.grown (grownBy_putObj' _ W2.heap.size (.deferred none)) hZB.size (fun q e => by cases e; omega))
      have HSt := Lib.hid (And.intro (hSt h2.row) (fun s hs => hSt (h2.each s hs)))
      have H34 := Lib.hid (And.intro h3 h4)
      have HK3 := Lib.hid hK3
      clear hSt hZ0 hZ1 hZ2 hZB G0 G1 G2 hK1 hK2 hK3 hKd h h1 h2 h3 h4 HGd hP0 hls
      go_wp2
      refine ⟨by simp, .inl ⟨_, _, rfl, run_takeDeferred HK3.out, ?_⟩⟩
      refine ⟨_, res3_ rfl rfl rfl rfl HZ0.out HZ1.out HZ2.out, ?_⟩
      rw [HRd.out]
      exact ⟨A, LL.length, c, Ts, rfl, H34.out.1, ⟨HSt.out.1, HSt.out.2⟩, H34.out.2, HZB.out⟩
    case stop =>
      rintro k pre V hpre ⟨rfl, h0, h1, h2, h3, h4⟩ hKd
      have Hp := Lib.hid hKd
      have H0 := Lib.hid (h0.at_ (World.putObj_heap_other (w := V) (o := .deferred none) (show b0 ≠ W2.heap.size from by have := Hls.out W2.heap.size (.inr (.inl rfl)); omega)))
      have H1 := Lib.hid (h1.at_ (World.putObj_heap_other (w := V) (o := .deferred none) (show b1 ≠ W2.heap.size from by have := Hls.out W2.heap.size (.inr (.inl rfl)); omega)))
      have H2 := Lib.hid (h2.at_ (World.putObj_heap_other (w := V) (o := .deferred none) (show b2 ≠ W2.heap.size from by have := Hls.out W2.heap.size (.inr (.inl rfl)); omega)))
      have HBl := Lib.hid (h4.grown (grownBy_putObj' V W2.heap.size (.deferred none)) h4.size (fun k e => by cases e; have := Hls.out W2.heap.size (.inr (.inl rfl)); omega))
      clear h0 h1 h2 h4
      gi_wp2
      refine ⟨by simp, .inl ⟨_, _, rfl, run_takeDeferred hKd, ?_⟩⟩
      refine ⟨_, res3_ rfl rfl rfl rfl H0.out H1.out H2.out, ?_⟩
      rw [h3]
      exact ⟨none, 0, 0, [], rfl, rfl, ⟨World.ownsRow_nil _ _ _ _, fun s hs => (by cases hs)⟩, fun s hs => (by cases hs), HBl.out⟩
end Go.Proofs.Ytinfbaflkjghhaa
/- The document's Parse. -/
namespace Go.Proofs.Ytinfbaflkjghhaa
open Go.RowKit
theorem drop_cons {l : List Nat} {i c : Nat} (h : l[i]? = some c) : l.drop i = c :: l.drop (i + 1) := by
  obtain ⟨hi, he⟩ := List.getElem?_eq_some_iff.1 h
  rw [← he]
  exact List.drop_eq_getElem_cons hi
theorem cur_next {l : List Nat} {i k c : Nat} (h : l[i]? = some c) (hk : k ≤ i) : (l.take (i + 1)).drop k = (l.take i).drop k ++ [c] := by
  obtain ⟨hi, he⟩ := List.getElem?_eq_some_iff.1 h
  rw [List.take_add_one, h, List.drop_append, List.length_take, Nat.min_eq_left (by omega), show k - i = 0 by omega]
  rfl
theorem cur_self (l : List Nat) (i : Nat) : (l.take (i + 1)).drop (i + 1) = [] := List.drop_of_length_le (by rw [List.length_take]; omega)
theorem lns_ten (cur t : List Nat) : lns cur (10 :: t) = (cur ++ [10]) :: lns [] t := by rw [lns, if_pos rfl]
theorem lns_not {c : Nat} (cur t : List Nat) (h : ¬ c = 10) : lns cur (c :: t) = lns (cur ++ [c]) t := by rw [lns, if_neg h]
theorem lr_ten (cur : List Nat) : lrV (cur ++ [10]) = lnV cur ∧ lrO (cur ++ [10]) = lnO cur := by
  unfold lrV lrO
  rw [List.getLast?_concat, if_pos rfl, if_pos rfl, List.dropLast_concat]
  exact ⟨rfl, rfl⟩
theorem lr_not {cur : List Nat} (h : ¬ 10 ∈ cur) : lrO cur = false := by
  unfold lrO
  rw [if_neg (fun e => h (List.mem_of_getLast? e))]
theorem cnt_next {l : List Nat} {i c : Nat} (h : l[i]? = some c) : (l.take (i + 1)).count 10 = (l.take i).count 10 + if c = 10 then 1 else 0 := by
  rw [List.take_add_one, h, List.count_append]
  by_cases hc : c = 10
  · rw [hc]; rfl
  · have : (10 == c) = false := by simpa using fun e : 10 = c => hc e.symm
    simp [hc]
theorem own_rows_len {W : World} {lo n : Nat} {v : Value} {Ts : List StT} (h : W.ownsRow lo 30 5 v n (rowsV stC Ts)) : Ts.length = n := by
  obtain ⟨A, c, rfl, h2⟩ := RdS.of_own h
  exact h2.rlen stC_len (by decide)
set_option maxRecDepth 100000 in
set_option maxHeartbeats 4000000 in
theorem rparse_any (l : List Nat) (w : World) (hb : ∀ b ∈ l, b < 256) (hl : l.length ≤ 100000) : Calls Try.prog 18 #[.string (txt l)] w (GivesL w (parS l)) := by
  obtain ⟨iS, hiS, zS0, zS1, zS2⟩ := info_parts_ info_stp
  obtain ⟨n, gn⟩ : ∃ z, l.length = z := ⟨_, rfl⟩
  have Hl := Lib.hid gn
  have Hb := Lib.hid hb
  have hts : (txt l).size = n := by rw [txt_size]; exact gn
  have HIx : RowKit.Hid (∀ (i c : Nat), l[i]? = some c → ∀ W, (Instr.index 9 (.string (txt l)) (.int .i64 (i : Int))).run Try.prog W = .ok (.int .u8 (c : Int)) W) := Lib.hid (fun i c h W => idx_txt hb h W)
  have HEx : RowKit.Hid (∀ i j, (txt l).extract i j = txt ((l.take j).drop i)) := Lib.hid (txt_ext l)
  have HP0 : RowKit.Hid (parS l = if n > 65536 ∨ l.count 10 > 2048 then ([], 0, 3) else prT (lns [] l) []) := Lib.hid (by rw [← gn]; rfl)
  obtain ⟨t, gt⟩ : ∃ z, txt l = z := ⟨_, rfl⟩
  obtain ⟨R, gR⟩ : ∃ z, parS l = z := ⟨_, rfl⟩
  rw [gt] at hts HIx HEx ⊢
  rw [gR] at HP0 ⊢
  rw [gn] at hl
  have Ht := Lib.hid hts
  clear gt gR gn hts hb
  go_enter Try.func18, Try.ntmps18
  go_upto_region 3 with fail
  go_loopw [5, 6] (fun cv iv wr => ∃ (i : Nat), i ≤ n ∧ cv = .int .i64 (((l.take i).count 10 : Nat) : Int) ∧ iv = .int .i64 (i : Int) ∧ wr = w) (fun _ i _ => n - (intOf i).toNat)
  case atStart => exact ⟨0, Nat.zero_le _, rfl, rfl, rfl⟩
  case round =>
    obtain ⟨i, hi, rfl, rfl, hw⟩ := hrel
    obtain ⟨wo, gwo⟩ : ∃ z, wr = z := ⟨_, rfl⟩
    rw [gwo] at hw ⊢
    clear gwo
    have hts := Ht.out
    by_cases hlt : i < n
    · obtain ⟨c, hc⟩ : ∃ c, l[i]? = some c := ⟨_, List.getElem?_eq_getElem (by have := Hl.out; omega)⟩
      have hx := HIx.out i c hc
      have hltI : (i : Int) < (t.size : Int) := by omega
      have HN := Lib.hid (cnt_next hc)
      obtain ⟨q, gq⟩ : ∃ z, (l.take i).count 10 = z := ⟨_, rfl⟩
      have hq : q ≤ 100000 := by rw [← gq]; exact Nat.le_trans List.count_le_length (by rw [List.length_take]; omega)
      rw [gq] at HN ⊢
      clear gq hc
      by_cases hc : c = 10
      · have hcI : (c : Int) = 10 := by omega
        have HN2 : RowKit.Hid ((l.take (i + 1)).count 10 = q + 1) := Lib.hid (by rw [HN.out, if_pos hc])
        clear hc HN
        go_wp2
        go_roundw
        case rel => exact ⟨i + 1, by omega, by rw [HN2.out]; go_num, by go_num, (by first | trivial | exact hw)⟩
        case measure => simp [intOf]; omega
      · have hcI : ¬ (c : Int) = 10 := by omega
        have HN2 : RowKit.Hid ((l.take (i + 1)).count 10 = q) := Lib.hid (by rw [HN.out, if_neg hc]; rfl)
        clear hc HN
        go_wp2
        go_roundw
        case rel => exact ⟨i + 1, by omega, by rw [HN2.out], by go_num, (by first | trivial | exact hw)⟩
        case measure => simp [intOf]; omega
    · obtain rfl : i = n := by omega
      have hnl : ¬ (i : Int) < (t.size : Int) := by omega
      have HP1 : RowKit.Hid (R = if i > 65536 ∨ (l.take i).count 10 > 2048 then ([], 0, 3) else prT (lns [] l) []) := Lib.hid (by rw [HP0.out, List.take_of_length_le (by rw [Hl.out]; exact Nat.le_refl _)])
      obtain ⟨q, gq⟩ : ∃ z, (l.take i).count 10 = z := ⟨_, rfl⟩
      rw [gq] at HP1 ⊢
      subst hw
      clear gq HP0
      by_cases hbig : i > 65536 ∨ q > 2048
      · have HR : RowKit.Hid (R = ([], 0, 3)) := Lib.hid (by rw [HP1.out, if_pos hbig])
        by_cases h1 : i > 65536
        · have h1I : (65536 : Int) < (t.size : Int) := by omega
          clear hbig
          go_wp2
          go_ret3
          rw [HR.out]
          exact ⟨none, 0, 0, [], rfl, rfl, ⟨World.ownsRow_nil _ _ _ _, fun s hs => (by cases hs)⟩, fun s hs => (by cases hs), Below.refl _ _⟩
        · have h1I : ¬ (65536 : Int) < (t.size : Int) := by omega
          have h2I : (2048 : Int) < (q : Int) := by omega
          clear hbig
          go_wp2
          go_ret3
          rw [HR.out]
          exact ⟨none, 0, 0, [], rfl, rfl, ⟨World.ownsRow_nil _ _ _ _, fun s hs => (by cases hs)⟩, fun s hs => (by cases hs), Below.refl _ _⟩
      · have HR : RowKit.Hid (R = prT (lns [] l) []) := Lib.hid (by rw [HP1.out, if_neg hbig])
        have h1I : ¬ (65536 : Int) < (t.size : Int) := by omega
        have h2I : ¬ (2048 : Int) < (q : Int) := by omega
        have hn0 : i ≤ 65536 := by omega
        clear hbig HP1 hi hlt
        go_upto_region 12 with fail
        obtain ⟨wS, gwS⟩ : ∃ z, wo.alloc (.cells #[] 30) = z := ⟨_, rfl⟩
        have HO0 : RowKit.Hid (Ow wo wo.heap.size 30 5 (.slice (some ⟨wo.heap.size, 0, none⟩) 0 0) 0 (rowsV stC []) wS) := Lib.hid (gwS ▸ Ow.new_ (cs := #[]) (Below.refl _ _) (Nat.le_refl _) (Nat.le_refl _) (Nat.zero_le _) rfl)
        obtain ⟨v0, gv0⟩ : ∃ z : Value, .slice (some ⟨wo.heap.size, 0, none⟩) 0 0 = z := ⟨_, rfl⟩
        rw [gwS, gv0]
        rw [gv0] at HO0
        clear gwS gv0
        obtain ⟨n, gn⟩ : ∃ z, i = z := ⟨_, rfl⟩
        rw [gn] at hn0 Hl Ht hl ⊢
        clear gn hnl h1I h2I hts
        have HL0 : RowKit.Hid (R = prT (lns ((l.take 0).drop 0) (l.drop 0)) (([] : List StT).map sdT)) := Lib.hid (by rw [HR.out]; rfl)
        go_loopw [7, 8, 9] (fun v av iv wr => ∃ (i a k : Nat) (Ts : List StT), i ≤ n ∧ a ≤ i ∧ k ≤ i ∧ Ts.length = k ∧ av = .int .i64 (a : Int) ∧ iv = .int .i64 (i : Int) ∧ RowKit.Hid (Ow wo wo.heap.size 30 5 v k (rowsV stC Ts) wr) ∧ RowKit.Hid (∀ s ∈ Ts, s.2.2.1 = s.2.2.2.2.length ∧ wr.ownsRow wo.heap.size 53 20 (.slice s.2.1 s.2.2.1 s.2.2.2.1) s.2.2.1 (rowsV opCells s.2.2.2.2)) ∧ RowKit.Hid (¬ 10 ∈ (l.take i).drop a) ∧ RowKit.Hid (R = prT (lns ((l.take i).drop a) (l.drop i)) (Ts.map sdT))) (fun _ _ i _ => n - (intOf i).toNat)
        case atStart => exact ⟨0, 0, 0, [], Nat.zero_le _, Nat.le_refl _, Nat.le_refl _, rfl, rfl, rfl, HO0, Lib.hid (fun s hs => (by cases hs)), Lib.hid (fun h => (by cases h)), HL0⟩
        case round =>
          clear HO0 HL0 HR
          obtain ⟨i, a, k, Ts, hi, hai, hki, hTk, rfl, rfl, HO, HE, HN, HR⟩ := hrel
          obtain ⟨wp, gwp⟩ : ∃ z, wr = z := ⟨_, rfl⟩
          rw [gwp] at HO HE ⊢
          clear gwp
          obtain ⟨Ac, cc, rfl, -⟩ := HO.out.rds
          have hts := Ht.out
          by_cases hlt : i < n
          · obtain ⟨c, hc⟩ : ∃ c, l[i]? = some c := ⟨_, List.getElem?_eq_getElem (by have := Hl.out; omega)⟩
            have hx := HIx.out i c hc
            have hltI : (i : Int) < (t.size : Int) := by omega
            have hR := HR.out
            rw [drop_cons hc] at hR
            have hcur := cur_next hc hai
            by_cases hc10 : c = 10
            · rw [hc10, lns_ten] at hR
              have hcI : (c : Int) = 10 := by omega
              have hcl : ((l.take i).drop a).length ≤ 100000 := by rw [List.length_drop, List.length_take]; omega
              have hcb : ∀ b ∈ (l.take i).drop a, b < 256 := fun b h => Hb.out b (List.mem_of_mem_take (List.mem_of_mem_drop h))
              have HLi := Lib.hid (fun W => rline_any ((l.take i).drop a) W hcl hcb)
              have hex := HEx.out a i
              have hlr := lr_ten ((l.take i).drop a)
              have hEd : lnE ((l.take i).drop a) = if lnO ((l.take i).drop a) = true then 0 else 240 := rfl
              obtain ⟨cur, gcur⟩ : ∃ z, (l.take i).drop a = z := ⟨_, rfl⟩
              rw [gcur] at hR HLi hex hlr hEd
              obtain ⟨u, gu⟩ : ∃ z, txt cur = z := ⟨_, rfl⟩
              rw [gu] at hex HLi
              obtain ⟨X, gX⟩ : ∃ z, lnV cur = z := ⟨_, rfl⟩
              obtain ⟨ok, gok⟩ : ∃ z, lnO cur = z := ⟨_, rfl⟩
              obtain ⟨y, gy⟩ : ∃ z, lnE cur = z := ⟨_, rfl⟩
              rw [gX, gok] at hlr
              rw [gX, gy] at HLi
              rw [gy, gok] at hEd
              rw [prT, hlr.1, hlr.2] at hR
              have HR2 := Lib.hid hR
              have HEd := Lib.hid hEd
              have HTk := Lib.hid hTk
              have ha0 : (0 : Int) ≤ (a : Int) := by omega
              have haI : (a : Int) ≤ (i : Int) := by omega
              have hi0 : (0 : Int) ≤ (i : Int) := by omega
              have hiI : (i : Int) ≤ (t.size : Int) := by omega
              obtain ⟨⟨x1, x2, x3, x4⟩, L⟩ := X
              clear hc hR hcur hcl hcb hlr hEd gcur gu gX gok gy HN HR hc10 hTk
              go_wp2_with fail
              refine (HLi.out wp).mono ?_
              intro e W3 hg
              obtain ⟨A4, n4, c4, rfl, hn4, ho4, hb4⟩ := gives_s hg
              have hb5 := bel_al hb4 (.cells #[.int .i64 x1, .int .i64 x2, .int .i64 x3, .int .i64 x4, .slice A4 n4 c4] 30)
              have HYt : RowKit.Hid (Whole (W3.alloc (.cells #[.int .i64 x1, .int .i64 x2, .int .i64 x3, .int .i64 x4, .slice A4 n4 c4] 30)) W3.heap.size 30 (stC ((x1, x2, x3, x4), (A4, n4, c4, L)))) := Lib.hid (Whole.new_ _ _ [_, _, _, _, _])
              have HIt := Lib.hid (own_lo8 (B' := wo.heap.size) (own_up ho4 (below1 W3 (.cells #[.int .i64 x1, .int .i64 x2, .int .i64 x3, .int .i64 x4, .slice A4 n4 c4] 30))) HO.out.below.size)
              have HOy := Lib.hid (HO.out.up hb5)
              have HEy : RowKit.Hid (∀ s ∈ Ts, s.2.2.1 = s.2.2.2.2.length ∧ (W3.alloc (.cells #[.int .i64 x1, .int .i64 x2, .int .i64 x3, .int .i64 x4, .slice A4 n4 c4] 30)).ownsRow wo.heap.size 53 20 (.slice s.2.1 s.2.2.1 s.2.2.2.1) s.2.2.1 (rowsV opCells s.2.2.2.2)) := Lib.hid (fun s hs => ⟨(HE.out s hs).1, own_up (HE.out s hs).2 hb5⟩)
              have HLn := Lib.hid hn4
              clear hg hb4 hb5 ho4 hn4 HO HE HLi hex hx
              go_upto_region 16 with fail
              obtain ⟨W5, gW5⟩ : ∃ z, W3.alloc (.cells #[.int .i64 x1, .int .i64 x2, .int .i64 x3, .int .i64 x4, .slice A4 n4 c4] 30) = z := ⟨_, rfl⟩
              obtain ⟨g8, gg8⟩ : ∃ z, W3.heap.size = z := ⟨_, rfl⟩
              rw [gW5] at HYt HIt HOy HEy ⊢
              rw [gg8] at HYt ⊢
              clear gW5 gg8
              cases ok with
              | false =>
                obtain rfl : y = 240 := by have := HEd.out; simpa using this
                have HRz : RowKit.Hid (R = ([], k + 1, 240)) := Lib.hid (by rw [HR2.out]; simp [HTk.out])
                have e1 : IntKind.i64.wrap ((k : Int) + 1) = ((k + 1 : Nat) : Int) := by rw [show (k : Int) + 1 = ((k + 1 : Nat) : Int) by omega]; exact IntWalk.i64_in _ (by omega)
                obtain ⟨k1, gk1⟩ : ∃ z, k + 1 = z := ⟨_, rfl⟩
                rw [gk1] at HRz e1
                clear HR2 HEd gk1 HEy HIt HYt
                go_wp2
                go_ret3
                rw [HRz.out]
                exact ⟨none, 0, 0, [], rfl, rfl, ⟨World.ownsRow_nil _ _ _ _, fun s hs => (by cases hs)⟩, fun s hs => (by cases hs), HOy.out.below⟩
              | true =>
                obtain rfl : y = 0 := by have := HEd.out; simpa using this
                have HRz : RowKit.Hid (R = prT (lns ((l.take (i + 1)).drop (i + 1)) (l.drop (i + 1))) ((Ts ++ [((x1, x2, x3, x4), (A4, n4, c4, L))]).map sdT)) := Lib.hid (by rw [HR2.out, if_pos rfl, cur_self, List.map_append]; rfl)
                obtain ⟨s9, gs⟩ : ∃ z : StT, ((x1, x2, x3, x4), (A4, n4, c4, L)) = z := ⟨_, rfl⟩
                have hL9 : s9.2.2.1 = s9.2.2.2.2.length := by rw [← gs]; exact HLn.out
                have hI9 : W5.ownsRow wo.heap.size 53 20 (.slice s9.2.1 s9.2.2.1 s9.2.2.2.1) s9.2.2.1 (rowsV opCells s9.2.2.2.2) := by rw [← gs]; exact HIt.out
                rw [gs] at HYt HRz
                have HL9 := Lib.hid hL9
                have HI9 := Lib.hid hI9
                clear HR2 HEd gs hL9 hI9 HLn HIt
                go_upto_region 18 with fail
                refine wp_region_lit ?_
                refine wl_read (v := ?_) (some 55) rfl (by rfl) ?_ ?_
                rotate_left
                · go_simp; (try with_reducible rfl)
                simp only [Act.put, stA_, st0_, st1_]
                refine wl_load (some 56) rfl (by rfl) 30 (.tmp 10) rfl g8 rfl 30 (stC s9) _ HYt.out Try.underlying30 rfl (by kernel_rfl) ?_
                simp only [Act.put, stA_, st0_, st1_]
                refine wl_buildSlice (some 57) rfl (by rfl) 22 30 1 #[(0, .tmp 56)] rfl Try.underlying22 (stC s9).toArray (by kernel_rfl) ?_
                simp only [Act.put, stA_, st0_, st1_]
                have HL4 : RowKit.Hid (RdS (W5.alloc (.cells (stC s9).toArray 30)) (W5.alloc (.cells (stC s9).toArray 30)).heap.size 5 (some ⟨W5.heap.size, 0, none⟩) 1 1 (rowsV stC [s9])) := Lib.hid (by rw [rowsS1]; exact RdS.of_whole8 (Whole.new_ _ _ _) rfl)
                have HO4 := Lib.hid (HOy.out.up (below1 W5 (.cells (stC s9).toArray 30)))
                have HE4 : RowKit.Hid (∀ s ∈ Ts, s.2.2.1 = s.2.2.2.2.length ∧ (W5.alloc (.cells (stC s9).toArray 30)).ownsRow wo.heap.size 53 20 (.slice s.2.1 s.2.2.1 s.2.2.2.1) s.2.2.1 (rowsV opCells s.2.2.2.2)) := Lib.hid (fun s hs => ⟨(HEy.out s hs).1, own_up (HEy.out s hs).2 (below1 W5 _)⟩)
                have HI4 := Lib.hid (own_up HI9.out (below1 W5 (.cells (stC s9).toArray 30)))
                obtain ⟨W4, gW4⟩ : ∃ z, W5.alloc (.cells (stC s9).toArray 30) = z := ⟨_, rfl⟩
                obtain ⟨g9, gg9⟩ : ∃ z, W5.heap.size = z := ⟨_, rfl⟩
                rw [gW4] at HL4 HO4 HE4 HI4 ⊢
                rw [gg9] at HL4 ⊢
                clear gW4 gg9 HOy HEy HI9 HYt
                go_wp2_with (first
                  | (at_builtin
                     refine wpList_push2 rfl (.tmp 55) (.tmp 57) _ rfl _ 30 iS _ 5 56 Try.underlying22 hiS zS0 zS1 zS2 rfl (by decide) _ _ _ rfl HO4.out _ _ _ _ _ rfl HL4.out (rowsV_one stC stC_one [s9]) (by unfold maxLen; omega) (by omega) ?_
                     intro v5 W6 how5 hb6 hgr5
                     obtain ⟨A5, c5, rfl, -⟩ := how5.rds
                     have HO5 := Lib.hid how5
                     have HE5 : RowKit.Hid (∀ s ∈ Ts, s.2.2.1 = s.2.2.2.2.length ∧ W6.ownsRow wo.heap.size 53 20 (.slice s.2.1 s.2.2.1 s.2.2.2.1) s.2.2.1 (rowsV opCells s.2.2.2.2)) := Lib.hid (fun s hs => ⟨(HE4.out s hs).1, own_grow (HE4.out s hs).2 HO4.out.own (by decide) hgr5⟩)
                     have HI5 := Lib.hid (own_grow HI4.out HO4.out.own (by decide) hgr5)
                     clear how5 hb6 hgr5))
                go_roundw
                case rel =>
                  refine ⟨i + 1, i + 1, k + 1, Ts ++ [s9], by omega, by omega, by omega, by rw [List.length_append, HTk.out]; rfl, by go_num, by go_num, Lib.hid (by rw [rowsV_app]; exact HO5.out), Lib.hid (fun s hs => ?_), Lib.hid (by rw [cur_self]; exact fun h => (by cases h)), HRz⟩
                  rcases List.mem_append.1 hs with hs | hs
                  · exact HE5.out s hs
                  · obtain rfl := List.mem_singleton.1 hs
                    exact ⟨HL9.out, HI5.out⟩
                case measure => simp [intOf]; omega
            · rw [lns_not _ _ hc10, ← hcur] at hR
              have HRz := Lib.hid hR
              have HNz : RowKit.Hid (¬ 10 ∈ (l.take (i + 1)).drop a) := Lib.hid (by
                rw [hcur]
                intro h
                rcases List.mem_append.1 h with h | h
                · exact HN.out h
                · exact hc10 (List.mem_singleton.1 h).symm)
              have hcI : ¬ (c : Int) = 10 := by omega
              clear hc hR hcur HN HR hc10
              go_wp2
              go_roundw
              case rel => exact ⟨i + 1, a, k, Ts, by omega, by omega, by omega, hTk, rfl, by go_num, HO, HE, HNz, HRz⟩
              case measure => simp [intOf]; omega
          · obtain rfl : n = i := by omega
            have hnl : ¬ (n : Int) < (t.size : Int) := by omega
            have hcu : (l.take n).drop a = l.drop a := by rw [List.take_of_length_le (by rw [Hl.out]; exact Nat.le_refl _)]
            have hR := HR.out
            have hN := HN.out
            rw [hcu] at hN
            rw [hcu, List.drop_of_length_le (show l.length ≤ n by rw [Hl.out]; exact Nat.le_refl _)] at hR
            by_cases ha : a = n
            · rw [ha, List.drop_of_length_le (show l.length ≤ n by rw [Hl.out]; exact Nat.le_refl _)] at hR
              have HRz : RowKit.Hid (R = (Ts.map sdT, 0, 0)) := Lib.hid hR
              have haI : (a : Int) = (t.size : Int) := by omega
              have HFin : RowKit.Hid (StW wo.heap.size wp (.slice Ac k cc) k Ts) := Lib.hid ⟨HO.out.own, fun s hs => (HE.out s hs).2⟩
              have HLn : RowKit.Hid (∀ s ∈ Ts, s.2.2.1 = s.2.2.2.2.length) := Lib.hid (fun s hs => (HE.out s hs).1)
              clear hR hN hcu HN HR HE ha
              go_wp2
              go_ret3
              rw [HRz.out]
              exact ⟨Ac, k, cc, Ts, rfl, rfl, HFin.out, HLn.out, HO.out.below⟩
            · have hne : l.drop a ≠ [] := fun e => by have h1 := congrArg List.length e; rw [List.length_drop, Hl.out] at h1; simp at h1; omega
              rw [show lns (l.drop a) [] = [l.drop a] by rw [lns, if_neg hne], prT, lr_not hN, if_neg (by decide), List.length_map, hTk] at hR
              have HRz : RowKit.Hid (R = ([], k + 1, 240)) := Lib.hid hR
              have e1 : IntKind.i64.wrap ((k : Int) + 1) = ((k + 1 : Nat) : Int) := by rw [show (k : Int) + 1 = ((k + 1 : Nat) : Int) by omega]; exact IntWalk.i64_in _ (by omega)
              obtain ⟨k1, gk1⟩ : ∃ z, k + 1 = z := ⟨_, rfl⟩
              rw [gk1] at HRz e1
              have haI : ¬ (a : Int) = (t.size : Int) := by omega
              clear hR hN hcu HN HR HE ha hne gk1
              go_wp2
              go_ret3
              rw [HRz.out]
              exact ⟨none, 0, 0, [], rfl, rfl, ⟨World.ownsRow_nil _ _ _ _, fun s hs => (by cases hs)⟩, fun s hs => (by cases hs), HO.out.below⟩
end Go.Proofs.Ytinfbaflkjghhaa
/- What Parse gives, told for readers; ScriptParses. -/
namespace Go.Proofs.Ytinfbaflkjghhaa
open Go.RowKit
def StepFit (s : SD) : Prop := In4 s.1 ∧ s.2.length ≤ 1000000 ∧ ∀ o ∈ s.2, o.t.size ≤ maxLen
theorem zS_fit : StepFit zS := by
  refine ⟨⟨?_, ?_, ?_, ?_⟩, by decide, fun o h => (by cases h)⟩ <;> · unfold In64; decide
theorem lrV_fit (x : List Nat) : StepFit (lrV x) := by
  have h : ∀ y : List Nat, StepFit (lnV y) := fun y => by
    unfold lnV
    split
    · have h1 := tkS_ops (B := pD y) (pD_lt y)
      exact ⟨tkS_in _, by omega, h1.2⟩
    · exact zS_fit
  unfold lrV
  split
  · exact h _
  · exact zS_fit
theorem prT_fit : ∀ (xs : List (List Nat)) (acc : List SD), (∀ s ∈ acc, StepFit s) → (∀ s ∈ (prT xs acc).1, StepFit s) ∧ (prT xs acc).1.length ≤ acc.length + xs.length
  | [], acc, h => ⟨h, Nat.le_refl _⟩
  | x :: xs, acc, h => by
    rw [prT]
    split
    · obtain ⟨h1, h2⟩ := prT_fit xs (acc ++ [lrV x]) (fun s hs => by
        rcases List.mem_append.1 hs with hs | hs
        · exact h s hs
        · obtain rfl := List.mem_singleton.1 hs
          exact lrV_fit x)
      exact ⟨h1, by rw [List.length_append] at h2; simp at h2 ⊢; omega⟩
    · exact ⟨fun s hs => (by cases hs), by simp⟩
theorem parS_fit (l : List Nat) : (∀ s ∈ (parS l).1, StepFit s) ∧ (parS l).1.length ≤ l.length := by
  unfold parS
  split
  · exact ⟨fun s hs => (by cases hs), by simp⟩
  · obtain ⟨h1, h2⟩ := prT_fit (lns [] l) [] (fun s hs => (by cases hs))
    exact ⟨h1, by have := lns_len l []; simp at this h2; omega⟩
/-- What is told of a row of steps read. -/
def GivesQ (w : World) (X : List SD) (N : Nat) (E : Int) (e : Ending) (w' : World) : Prop :=
  ∃ (A : Option Addr) (n c : Nat) (Ts : List StT), e = .returned (.tuple #[.slice A n c, .int .i64 (N : Int), .int .i64 E]) ∧ Ts.map sdT = X ∧ StRd w' A n c Ts ∧ n = X.length ∧ n ≤ 100000 ∧ Below w.heap.size w w'
theorem gives_q {w w' : World} {l : List Nat} {e : Ending} (hl : l.length ≤ 100000) (h : GivesL w (parS l) e w') : GivesQ w (parS l).1 (parS l).2.1 (parS l).2.2 e w' := by
  obtain ⟨A, n, c, Ts, h1, h2, h3, h4, h5⟩ := h
  obtain ⟨f1, f2⟩ := parS_fit l
  have hf : ∀ s ∈ Ts, StepFit (sdT s) := fun s hs => f1 _ (by rw [← h2]; exact List.mem_map_of_mem hs)
  have hn : n = (parS l).1.length := by rw [← h2, List.length_map]; exact (own_rows_len h3.row).symm
  exact ⟨A, n, c, Ts, h1, h2, h3.rd (fun s hs => by rw [h4 s hs]; exact (hf s hs).2.1) (fun s hs => (hf s hs).2.2) (fun s hs => (hf s hs).1), hn, by omega, h5⟩
theorem parse_q (l : List Nat) (w : World) (hb : ∀ b ∈ l, b < 256) (hl : l.length ≤ 100000) : Calls Try.prog 17 #[.string (txt l)] w (GivesQ w (parS l).1 (parS l).2.1 (parS l).2.2) :=
  (parse_any l w hb hl).mono (fun e w' h => gives_q hl h)
theorem rparse_q (l : List Nat) (w : World) (hb : ∀ b ∈ l, b < 256) (hl : l.length ≤ 100000) : Calls Try.prog 18 #[.string (txt l)] w (GivesQ w (parS l).1 (parS l).2.1 (parS l).2.2) :=
  (rparse_any l w hb hl).mono (fun e w' h => gives_q hl h)
theorem txt_cut (s : ByteArray) (k : Nat) : s.extract 0 k = txt ((tB s).take k) := by
  have := txt_ext (tB s) 0 k
  rwa [txt_tB, List.drop_zero] at this
set_option maxRecDepth 100000 in
set_option maxHeartbeats 4000000 in
theorem law_parses (s : ByteArray) (w : World) : Calls Try.prog 4 #[.string s] w fun e w' => e = .returned (.bool true) ∧ Below w.heap.size w w' := by
  go_enter Try.func4, Try.ntmps4
  go_wp2_with fail
  refine (shown23_any w).mono ?_
  rintro e w1 ⟨rfl, hb1⟩
  have HB1 := Lib.hid hb1
  have Hs : RowKit.Hid (∀ b ∈ tB s, b < 256) := Lib.hid (tB_lt s)
  have hsl : (tB s).length = s.size := by rw [← txt_size, txt_tB]
  have hse : txt (tB s) = s := txt_tB s
  have hsc := txt_cut s 66000
  obtain ⟨l, gl⟩ : ∃ z, tB s = z := ⟨_, rfl⟩
  rw [gl] at hsl hse hsc Hs
  clear hb1 gl
  go_upto_if 14 with fail
  go_cut [0] (fun v z => ∃ l : List Nat, v = .string (txt l) ∧ z = w1 ∧ l.length ≤ 66000 ∧ ∀ b ∈ l, b < 256)
  case first =>
    by_cases hgt : 66000 < s.size
    · have hg1 : (66000 : Int) < (s.size : Int) := by omega
      have hg2 : 66000 ≤ s.size := by omega
      go_wp2
      go_meet
      exact ⟨l.take 66000, by first | rfl | rw [hsc], rfl, by rw [List.length_take]; omega, fun b h => Hs.out b (List.mem_of_mem_take h)⟩
    · have hg1 : ¬ (66000 : Int) < (s.size : Int) := by omega
      go_wp2
      go_meet
      exact ⟨l, by first | rw [hse] | rfl, rfl, by omega, Hs.out⟩
  case rest =>
    clear hsl hse hsc Hs l
    obtain ⟨l, rfl, rfl, hl, hb⟩ := hcut
    have HA := Lib.hid (fun W => parse_q l W hb (by omega))
    have HR := Lib.hid (fun W => rparse_q l W hb (by omega))
    obtain ⟨⟨X, N, E⟩, gR⟩ : ∃ z, parS l = z := ⟨_, rfl⟩
    rw [gR] at HA HR
    obtain ⟨t, gt⟩ : ∃ z, txt l = z := ⟨_, rfl⟩
    rw [gt] at HA HR ⊢
    clear gR gt hl hb
    obtain ⟨wo, gwo⟩ : ∃ z, wc = z := ⟨_, rfl⟩
    rw [gwo] at HB1 ⊢
    clear gwo
    go_wp2_with fail
    refine (HA.out wo).mono ?_
    rintro e w2 ⟨A2, n2, c2, Ts, rfl, hm2, hs2, -, hn2, hb2⟩
    have HS2 := Lib.hid hs2
    have HM2 := Lib.hid hm2
    have HB2 := Lib.hid (bel_bl HB1.out hb2)
    clear hs2 hm2 hb2 HA HB1
    go_wp2_with fail
    refine (HR.out w2).mono ?_
    rintro e w3 ⟨A3, n3, c3, Ms, rfl, hm3, hs3, -, hn3, hb3⟩
    have HS3 := Lib.hid hs3
    have HS4 := Lib.hid (HS2.out.bl hb3)
    have HM3 := Lib.hid hm3
    have HB3 := Lib.hid (bel_bl HB2.out hb3)
    clear hs3 hm3 hb3 HR HB2 HS2
    go_wp2_with fail
    refine (rsame23_any A2 n2 c2 Ts A3 n3 c3 Ms w3 HS4.out HS3.out (by omega)).mono ?_
    rintro e w4 ⟨rfl, hb4⟩
    rw [show decide (List.map sdT Ts = List.map sdT Ms) = true from decide_eq_true (by rw [HM2.out, HM3.out])]
    have HB4 := Lib.hid (bel_bl HB3.out hb4)
    clear hb4 HS3 HS4 HM2 HM3 HB3
    go_wp2
    go_ret
    exact ⟨rfl, HB4.out⟩
end Go.Proofs.Ytinfbaflkjghhaa
/- Out of XOp13, XOpTy -/
namespace Go.Proofs.Ytinfbaflkjghhaa
open Go.RowKit
end Go.Proofs.Ytinfbaflkjghhaa
/- The laws' types of layer 8: bytes. -/
namespace Go.Proofs.Ytinfbaflkjghhaa
open Go.ChangeShapes Go.WideShapes Go.ChangeAt Go.RowKit
end Go.Proofs.Ytinfbaflkjghhaa
/- Types of layer 23 as data. -/
namespace Go.Proofs.Ytinfbaflkjghhaa
open Go.ChangeShapes Go.WideShapes Go.ChangeAt Go.RowKit
end Go.Proofs.Ytinfbaflkjghhaa
/- 'ScriptParses' answers true for every text.
   No condition beyond the row's own. -/
namespace Go.Proofs.Ytinfbaflkjghhaa
open Go.ChangeShapes Go.WideShapes Go.ChangeAt Go.RowKit
namespace lawScriptParses
set_option maxRecDepth 100000 in
theorem contract (H : Type) (enc : TypeId × Value → H) (W : World) (base : Nat) (args : Array Value) (ds gs : List (DataW H)) (before : List MemPlace)
    (hval : ∀ (j : Nat) t v, Try.f4.params[j]? = some t → args[j]? = some v → Value.okWide Try.prog W .any base t v)
    (hW : DataW.Whole enc Try.prog Try.f4.params.toList Rows.scriptParsesSpec.vars false W args.toList ds gs before) :
    Calls Try.prog 4 args W fun e W' => ∃ v, e = .returned v ∧ Rows.scriptParsesSpec.post enc Try.prog Try.f4 false true false false W args v W' := by
  have hW' := hW
  obtain ⟨p, q, hA, hV, rfl, hfz, hnd⟩ := hW
  obtain ⟨rfl, rfl⟩ := trodVars_none hV
  rw [Try.params4] at hA hval
  obtain ⟨v0, d0, rfl, rfl, h0⟩ := trodAll_one hA
  obtain ⟨s, rfl, -, -, hs0⟩ := Go.ChangeMaps.open_string Try.underlying9 (hval 0 9 v0 rfl rfl) h0
  refine (law_parses s W).mono fun e W' ⟨he, hb⟩ => ⟨_, he, ?_⟩
  exact law_post Try.laidOut (by kernel_rfl) (tb := 4) (by kernel_rfl) Try.underlying4 rfl ⟨rfl, rfl, rfl⟩ hW' hb
set_option maxRecDepth 100000 in
theorem lifted (os : Os) (started : os.Started) (H : Type) (enc : TypeId × Value → H) :
    ReturnsInHanded {} Try.checked os 4 .any (Rows.scriptParsesSpec.pre6 enc Try.prog Try.f4 Rows.scriptParsesRow.domain false) (Rows.scriptParsesSpec.post enc Try.prog Try.f4 false true false false) := by
  refine returnsInHanded_of_change (C := Try.checked) Try.own started (by kernel_rfl) Try.func4
    (ChangeSpec.witness6 (enc := enc) (C := Try.checked) false ⟨#[], #[.string { data := #[] }], []⟩ 8 (by kernel_rfl) (by kernel_rfl) (by kernel_rfl) (by kernel_rfl)) ?_
  intro W base args ds gs before hval hW _ _
  exact contract H enc W base args ds gs before hval hW
theorem proved : Rows.ScriptParsesSaid :=
  OpenClaim.holds_of_wide 4 Try.f4 rfl rfl rfl rfl rfl rfl rfl ⟨rfl, rfl, rfl, rfl, rfl⟩ rfl rfl rfl rfl rfl (by kernel_rfl) Try.func4 (by kernel_rfl)
    (of_decide_eq_true (by kernel_rfl)) (by unfold Func.isWrapper; first | (rw [if_pos (by decide +kernel)]; kernel_rfl) | (rw [if_neg (by decide +kernel)]; exact ⟨rfl, rfl⟩))
    (fun os started H enc _ => lifted os started H enc)
end lawScriptParses
end Go.Proofs.Ytinfbaflkjghhaa
