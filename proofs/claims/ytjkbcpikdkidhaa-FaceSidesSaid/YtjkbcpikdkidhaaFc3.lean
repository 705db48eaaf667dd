/- The face of a dart, gathered; and whether a dart is in it. -/
import Derived.RangeFuncNested
import Derived.RangeFuncBound
import Derived.RangeFuncCalls
import Derived.RangeFuncLeaves
import Derived.Shelf.Abstract
import Derived.Shelf.RegionOpen
import Derived.WalkKit
import Derived.OwnWalkIn
import Derived.TacticsInMore
import Derived.LoopNIn
import Derived.LoopIn
import Derived.Maps.AppendAt
import Derived.Test.YtjkbcpikdkidhaaFc2
namespace Go.Proofs.Ytjkbcpikdkidhaa
open Go.RowKit
set_option linter.unusedSimpArgs false
set_option linter.unusedVariables false


attribute [local go_sem] Oper.semAt_some

theorem trG_len (g : D → Option D) (x : D) : ∀ k y, (trG g x k y).length ≤ k
  | 0, _ => Nat.le_refl _
  | k + 1, y => by
    rw [trG, List.length_cons]
    split
    · simp
    · split
      · simp
      · have := trG_len g x k ‹D›; omega
theorem faceL_len (g : D → Option D) (N : Nat) (x : D) : (faceL g N x).length ≤ N := by
  unfold faceL
  split
  · exact trG_len _ _ _ _
  · simp

theorem own_base {w : World} {lo lo' : Nat} {e : TypeId} {k n : Nat} {v : Value} {xs : List Value} (h : w.ownsRow lo e k v n xs) (hb : lo' ≤ lo) : w.ownsRow lo' e k v n xs := by
  refine ⟨h.1, ?_⟩
  rcases h.2 with q | ⟨g, cap, cur, q1, q2, q3⟩
  · exact .inl q
  · exact .inr ⟨g, cap, cur, q1, by omega, q3⟩
/-- What has come of a face lies in a row of its own, above block bl + 2. -/
def SeqI (b0 bl : Nat) (w0 : World) (p : List D2) (W : World) : Prop := ∃ A c, Whole W b0 35 [.slice A p.length c] ∧ W.ownsRow (bl + 3) 29 3 (.slice A p.length c) p.length (dartsV (p.map (·.1))) ∧ Below w0.heap.size w0 W
theorem SeqI.abs {b0 bl : Nat} {w0 : World} {p : List D2} (h : b0 < bl) (hw : w0.heap.size ≤ bl) : AbS bl (SeqI b0 bl w0 p) := by
  rintro W W' r ⟨A, c, h1, h2, h3⟩ hg hr1 hr2
  refine ⟨A, c, h1.at_ (hg.block b0 h1.lt (fun e => by cases e; omega)), h2.kept hg (.inr (fun e => by have := (h2.lt r e).1; omega)), h3.grown hg h3.size (fun k e => by cases e; omega)⟩
theorem SeqI.al {b0 bl : Nat} {w0 W : World} {p : List D2} (h : SeqI b0 bl w0 p W) (o : Obj) : SeqI b0 bl w0 p (W.alloc o) := by
  obtain ⟨A, c, h1, h2, h3⟩ := h
  exact ⟨A, c, h1.al o, h2.alloc o, bel_al h3 o⟩
set_option maxRecDepth 100000 in
set_option maxHeartbeats 4000000 in
theorem appendseq_any (bx bn bm q : Nat) (g : D → Option D) (Sk : List D) (x : D) (hx : wfD x) (hxs : (g x).isSome = true → wfS x) (hg : ∀ d e, g d = some e → wfS e) (w : World)
    (h1 : Whole w bx 29 [.int .i64 x.1, .int .i64 x.2.1, .int .i64 x.2.2]) (h2 : Whole w bn 76 [.map (some bm)]) (h3 : MapD w bm q (opV g) Sk) (hN : Sk.length ≤ 1000000) :
    Calls Try.prog 78 #[.slice none 0 0, .func (.func 79) #[] #[.pointer (some ⟨bx, 0, none⟩), .pointer (some ⟨bn, 0, none⟩)]] w fun e w' => ∃ A c, e = .returned (.slice A (faceL g Sk.length x).length c) ∧ w'.ownsRow w.heap.size 29 3 (.slice A (faceL g Sk.length x).length c) (faceL g Sk.length x).length (dartsV (faceL g Sk.length x)) ∧ Below w.heap.size w w' := by
  have HX := Lib.hid h1
  have HN := Lib.hid h2
  have HM := Lib.hid h3
  have Hg := Lib.hid hg
  have Hxs := Lib.hid hxs
  have Hx := Lib.hid hx
  have hlx := h1.lt
  have hln := h2.lt
  have hlm := h3.lt
  clear h1 h2 h3 hg hxs hx
  refine (callsIn_wide (n := 0)).1 ?_
  refine callsIn_of_wp_marks Try.func78 rfl trivial ?_
  simp only [Try.ntmps78, List.size_toArray, List.length_cons, List.length_nil, Nat.reduceAdd, Nat.reduceSub, Array.replicate_succ, Array.replicate_zero, List.push_toArray, List.append_toArray, List.nil_append, List.cons_append]
  refine wpIn_wide.2 ?_
  go_wp2
  have hx0 : Whole (w.alloc (.cells #[.slice none 0 0] 35)) (w.heap.size) 35 [.slice none 0 0] := (Whole.new_ w 35 [.slice none 0 0])
  have hbl : Below w.heap.size w (w.alloc (.cells #[.slice none 0 0] 35)) := (below1 w (.cells #[.slice none 0 0] 35))
  have hsz : w.heap.size + 1 ≤ ((w.alloc (.cells #[.slice none 0 0] 35))).heap.size := by simp
  obtain ⟨W0, gW0⟩ : ∃ z, (w.alloc (.cells #[.slice none 0 0] 35)) = z := ⟨_, rfl⟩
  rw [gW0] at hx0 hbl hsz
  obtain ⟨b0, gb0⟩ : ∃ z, w.heap.size = z := ⟨_, rfl⟩
  rw [gb0] at hx0
  have HX0 := Lib.hid hx0
  have HB0 := Lib.hid hbl
  have HS0 := Lib.hid hsz
  have Gb0 := Lib.hid gb0
  have Lb0 : RowKit.Hid (w.heap.size ≤ b0) := Lib.hid (by omega)
  rw [gW0, gb0]
  skip --gW0 hbl hsz hx0 gb0
  have HX1 := Lib.hid ((HX.out.al (.cells #[.slice none 0 0] 35)))
  have HN1 := Lib.hid ((HN.out.al (.cells #[.slice none 0 0] 35)))
  have HM1 := Lib.hid ((HM.out.al (.cells #[.slice none 0 0] 35)))
  have hsz : W0.heap.size = b0 + 1 := by rw [← gW0, ← gb0]; simp
  obtain ⟨i0, hi, hz0, hz1, hz2⟩ := info_partsD info_dartD
  rw [gW0] at HX1 HN1 HM1
  refine (wpIn_wide (n := 0)).1 ?_
  refine wpIn_roundS (gf := 79) (lb := #[.pointer (some ⟨bx, 0, none⟩), .pointer (some ⟨bn, 0, none⟩)]) rfl (enters_of Try.func79 (by kernel_rfl) rfl) (encs := fun y : D2 => #[dV y.1]) (fun _ => rfl) (fun i => i = bx ∨ i = bn ∨ i = bm ∨ i = W0.heap.size + 2) (by omega)
    (fun r => round_its bx bn bm q g Sk x Hx.out Hxs.out Hg.out _ _ ⟨.inl rfl, .inr (.inl rfl), .inr (.inr (.inl rfl)), .inr (.inr (.inr (by simp [World.size_alloc])))⟩ ((HX1.out.al _).al _) ((HN1.out.al _).al _) ((HM1.out.al _).al _) (by omega))
    (SeqI b0 W0.heap.size w) (fun p y a' W => ∃ By, W0.heap.size + 3 ≤ By ∧ By < W.heap.size ∧ Whole W By 29 [.int .i64 y.1.1, .int .i64 y.1.2.1, .int .i64 y.1.2.2] ∧ a' = { tmps := #[.slice none 0 0, .func (.func 79) #[] #[.pointer (some ⟨bx, 0, none⟩), .pointer (some ⟨bn, 0, none⟩)], .pointer (some ⟨b0, 0, none⟩), undef, .slice none 0 0, .pointer (some ⟨By, 0, none⟩), .func (.func 79) #[] #[.pointer (some ⟨bx, 0, none⟩), .pointer (some ⟨bn, 0, none⟩)], dV y.1, undef, undef, undef, undef, undef], defers := [] } ∧ SeqI b0 W0.heap.size w p W)
    (fun _ _ _ => False) (fun p => SeqI.abs (by omega) (by omega))
    (fun p y a' W W' r h hg hr1 hr2 => by obtain ⟨By, e1, e2, e3, e4, e5⟩ := h; exact ⟨By, e1, Nat.lt_of_lt_of_le e2 hg.size, e3.at_ (hg.block By e2 (fun e => by cases e; omega)), e4, SeqI.abs (by omega) (by omega) W W' r e5 hg hr1 hr2⟩)
    (fun _ _ _ _ _ h => h.elim) ⟨none, 0, HX0.out, World.ownsRow_nil _ _ _ _, HB0.out⟩ ?assign ?body ?done ?stop
  case assign =>
    rintro l pre ⟨⟨y1, y2, y3⟩, hy⟩ W R hi hsz3 hK
    simp only [dV]
    gi_wp2
    exact hK _ _ (KpS.grown (World.grownBy_alloc W _ none) (fun r e => by cases e)) ⟨W.heap.size, hsz3, by simp, Whole.new_ _ _ _, rfl, hi.al _⟩
  case body =>
    rintro l pre ⟨⟨y1, y2, y3⟩, hy⟩ a' W ⟨By, hBy, hBl, hY, rfl, A, c, hb, ho, hB⟩ hlen hsz3
    have c0 := hb.cell (i := 0) rfl
    have d0 := hY.cell (i := 0) rfl
    have d1 := hY.cell (i := 1) rfl
    have d2 := hY.cell (i := 2) rfl
    have hC : ∀ j u, [Value.int .i64 y1, Value.int .i64 y2, Value.int .i64 y3][j]? = some u → (W.alloc (.cells #[.int .i64 y1, .int .i64 y2, .int .i64 y3] 29)).cell? ((⟨W.heap.size, 0, none⟩ : Addr).add j) = some u := fun j u hj => by
      have e := (Whole.new_ W 29 [.int .i64 y1, .int .i64 y2, .int .i64 y3]).cell hj
      rw [Addr.add_lit, Nat.zero_add]
      exact e
    have HSZ := Lib.hid hsz
    have gb := Gb0.out
    clear hsz
    have hb1 := hb.al (.cells #[.int .i64 y1, .int .i64 y2, .int .i64 y3] 29)
    have ho1 := ho.alloc (.cells #[.int .i64 y1, .int .i64 y2, .int .i64 y3] 29)
    have hne := own_ne ho1 hb1 (by decide)
    have hlw := ho.lt
    simp only [dV]
    gi_wp2_with (gi_at_builtin; refine wpListIn_append_own _ rfl _ _ 35 rfl (W0.heap.size + 3) 29 i0 _ 3 24 Try.underlying35 hi hz0 hz1 hz2 rfl (by decide) _ _ _ rfl ho1 ⟨W.heap.size, 0, none⟩ 1 1 [.int .i64 y1, .int .i64 y2, .int .i64 y3] rfl rfl hC (by simp [Value.oneCell']) (by unfold maxLen; omega) (by omega) (by simp; omega) ?_; intro v' w1 hown' hgrow _; obtain ⟨g', cap', rfl⟩ := ownsRow_succ hown'; have c1 := (hb1.grown hgrow hne).cell (i := 0) rfl; have f1 := (hb1.grown hgrow hne).free 0)
    have hl1 : (pre ++ [(⟨(y1, y2, y3), hy⟩ : D2)]).length = pre.length + 1 := by simp
    have hl2 : dartsV ((pre ++ [(⟨(y1, y2, y3), hy⟩ : D2)]).map (·.1)) = dartsV (pre.map (·.1)) ++ [.int .i64 y1, .int .i64 y2, .int .i64 y3] := by rw [List.map_append, dartsV_app]; rfl
    have hsz := HSZ.out
    have hlt2 := hown'.lt g' rfl
    refine ⟨(KpS.grown (World.grownBy_alloc W _ none) (fun r e => by cases e)).trans ((KpS.grown hgrow (fun r e q => by have := (ho1.lt r e).1; omega)).trans (KpS.grown (grownBy_setCell' _ _ _) (fun r e q => by cases e; omega))), ?_⟩
    refine ⟨some ⟨g', 0, none⟩, cap', ?_, ?_, ?_⟩
    · rw [hl1]
      exact (hb1.grown hgrow hne).set_ 0 _
    · rw [hl1, hl2]
      exact hown'.kept (grownBy_setCell' _ _ _) (.inr (fun e => by have e2 : g' = b0 := Option.some.inj e; omega))
    · exact ((bel_al hB (.cells #[.int .i64 y1, .int .i64 y2, .int .i64 y3] 29)).grown hgrow (by have := hB.size; simp; omega) (fun k e => by have := (ho1.lt k e).1; omega)).setCell (p := ⟨b0, 0, none⟩) Lb0.out _
  case done =>
    rintro ys W hS ⟨A, c, hb, ho, hB⟩ hK
    have c0 := hb.cell (i := 0) rfl
    have HSZ := Lib.hid hsz
    clear hsz
    go_wp2
    refine ⟨by simp, .inl ⟨_, _, rfl, run_takeDeferred hK, ?_⟩⟩
    have hlf : (faceL g Sk.length x).length = ys.length := by rw [← hS, List.length_map]
    rw [hS] at ho
    have hsz := HSZ.out
    have gb := Gb0.out
    refine ⟨_, results_tmp rfl _ _ _, A, c, by rw [hlf]; rfl, ?_, hB.grown (grownBy_putObj' _ _ _) hB.size (fun k e => by cases e; omega)⟩
    rw [hlf]
    exact World.ownsRow.kept (own_base ho (by omega)) (grownBy_putObj' _ _ _) (.inr (fun e => by have := (World.ownsRow.lt ho _ e).1; omega))
  case stop =>
    rintro c pre W _ h _
    exact h.elim
set_option maxRecDepth 100000 in
set_option maxHeartbeats 4000000 in
theorem collect_any (bx bn bm q : Nat) (g : D → Option D) (Sk : List D) (x : D) (hx : wfD x) (hxs : (g x).isSome = true → wfS x) (hg : ∀ d e, g d = some e → wfS e) (w : World)
    (h1 : Whole w bx 29 [.int .i64 x.1, .int .i64 x.2.1, .int .i64 x.2.2]) (h2 : Whole w bn 76 [.map (some bm)]) (h3 : MapD w bm q (opV g) Sk) (hN : Sk.length ≤ 1000000) :
    Calls Try.prog 57 #[.func (.func 79) #[] #[.pointer (some ⟨bx, 0, none⟩), .pointer (some ⟨bn, 0, none⟩)]] w fun e w' => ∃ A c, e = .returned (.slice A (faceL g Sk.length x).length c) ∧ w'.ownsRow w.heap.size 29 3 (.slice A (faceL g Sk.length x).length c) (faceL g Sk.length x).length (dartsV (faceL g Sk.length x)) ∧ Below w.heap.size w w' := by
  have HA := Lib.hid (appendseq_any bx bn bm q g Sk x hx hxs hg w h1 h2 h3 hN)
  clear h1 h2 h3 hg hxs hx
  go_enter Try.func57, Try.ntmps57
  go_wp2_with (go_at_call 78; refine HA.out.mono ?_; rintro e w' ⟨A, c, rfl, h4, h5⟩; have H4 := Lib.hid h4; have H5 := Lib.hid h5; clear h4 h5)
  go_ret
  exact ⟨A, c, rfl, H4.out, H5.out⟩
end Go.Proofs.Ytjkbcpikdkidhaa
