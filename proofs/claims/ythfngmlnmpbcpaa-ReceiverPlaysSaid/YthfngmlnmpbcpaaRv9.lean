/- Clone; Same; what two receivers that hold alike do. -/
import Derived.Test.YthfngmlnmpbcpaaRv5
import Derived.Test.YthfngmlnmpbcpaaRv2
import Derived.Maps.RangeWalk
namespace Go.Proofs.Ythfngmlnmpbcpaa
open Go.RowKit Go.Maps
set_option linter.unusedSimpArgs false
set_option linter.unusedVariables false

/-- What is held, wherever it lies. -/
def abs17 (l : List HE) : List (Nat × List Nat) := l.map (fun e : HE => (e.1, e.2.2))
theorem abs17_len {l l2 : List HE} (h : abs17 l = abs17 l2) : l.length = l2.length := by
  have := congrArg List.length h
  simpa [abs17] using this
theorem abs17_fst {l l2 : List HE} (h : abs17 l = abs17 l2) : l.map (fun e : HE => e.1) = l2.map (fun e : HE => e.1) := by
  have := congrArg (List.map Prod.fst) h
  simpa [abs17, List.map_map, Function.comp_def] using this
theorem abs17_snd {l l2 : List HE} (h : abs17 l = abs17 l2) : l.map (fun e : HE => e.2.2) = l2.map (fun e : HE => e.2.2) := by
  have := congrArg (List.map Prod.snd) h
  simpa [abs17, List.map_map, Function.comp_def] using this
theorem abs17_cons {e e2 : HE} {l l2 : List HE} : abs17 (e :: l) = abs17 (e2 :: l2) ↔ (e.1 = e2.1 ∧ e.2.2 = e2.2.2) ∧ abs17 l = abs17 l2 := by
  simp [abs17]
theorem abs17_mem {l l2 : List HE} (h : abs17 l = abs17 l2) {e : HE} (he : e ∈ l) : ∃ e2 ∈ l2, e2.1 = e.1 ∧ e2.2.2 = e.2.2 := by
  have h1 : (e.1, e.2.2) ∈ abs17 l2 := by rw [← h]; exact List.mem_map.2 ⟨e, he, rfl⟩
  obtain ⟨e2, h2, h3⟩ := List.mem_map.1 h1
  have h4 := Prod.mk.inj h3
  exact ⟨e2, h2, h4.1, h4.2⟩
theorem drain_abs : ∀ {l l2 : List HE} {got : Nat}, abs17 l = abs17 l2 → (drain got l).1 = (drain got l2).1 ∧ abs17 (drain got l).2.1 = abs17 (drain got l2).2.1 ∧ abs17 (drain got l).2.2 = abs17 (drain got l2).2.2
  | [], [], got, _ => ⟨rfl, rfl, rfl⟩
  | [], e :: r, got, h => by simp [abs17] at h
  | e :: r, [], got, h => by simp [abs17] at h
  | e :: r, e2 :: r2, got, h => by
    obtain ⟨⟨h1, h2⟩, h3⟩ := abs17_cons.1 h
    have ih := drain_abs (got := got + 1) h3
    by_cases hn : e.1 = got + 1
    · rw [drain_hit hn, drain_hit (h1 ▸ hn)]
      exact ⟨ih.1, abs17_cons.2 ⟨⟨h1, h2⟩, ih.2.1⟩, ih.2.2⟩
    · have e1 : drain got (e :: r) = (got, [], e :: r) := by rw [drain, if_neg hn]
      have e2' : drain got (e2 :: r2) = (got, [], e2 :: r2) := by rw [drain, if_neg (by rw [← h1]; exact hn)]
      rw [e1, e2']
      exact ⟨rfl, rfl, h⟩
theorem insH_abs {s : Nat} {sl sl2 : Sl} {L : List Nat} : ∀ {l l2 : List HE}, abs17 l = abs17 l2 → abs17 (insH (s, sl, L) l) = abs17 (insH (s, sl2, L) l2)
  | [], [], _ => rfl
  | [], e :: r, h => by simp [abs17] at h
  | e :: r, [], h => by simp [abs17] at h
  | e :: r, e2 :: r2, h => by
    obtain ⟨⟨h1, h2⟩, h3⟩ := abs17_cons.1 h
    unfold insH
    by_cases hn : s < e.1
    · rw [if_pos hn, if_pos (by rw [← h1]; exact hn)]
      exact abs17_cons.2 ⟨⟨rfl, rfl⟩, h⟩
    · rw [if_neg hn, if_neg (by rw [← h1]; exact hn)]
      exact abs17_cons.2 ⟨⟨h1, h2⟩, insH_abs h3⟩
/-- Two that hold alike take alike. -/
theorem TookRel.same {win got hs hs2 got' got2 : Nat} {HL HLb T Tb HL' HLb' : List HE} {x err errb : Int} {L : List Nat} (h : TookRel win got HL x L hs err T got' HL') (h2 : TookRel win got HLb x L hs2 errb Tb got2 HLb') (ha : abs17 HL = abs17 HLb) :
    err = errb ∧ abs17 T = abs17 Tb ∧ got' = got2 ∧ abs17 HL' = abs17 HLb' := by
  rcases h with ⟨rfl, rfl, rfl, rfl, hc⟩ | ⟨rfl, s, sl, h3, h4, h5, h6, _, hd⟩
  · rcases h2 with ⟨rfl, rfl, rfl, rfl, _⟩ | ⟨rfl, s, sl, h3, h4, h5, h6, _, hd⟩
    · exact ⟨rfl, rfl, rfl, ha⟩
    · exfalso
      rcases hc with ⟨y, hy, hyx⟩ | hc | hc
      · obtain ⟨z, hz, hz1, _⟩ := abs17_mem ha hy
        exact h6 z hz (by omega)
      · omega
      · omega
  · rcases h2 with ⟨rfl, rfl, rfl, rfl, hc⟩ | ⟨rfl, s2, sl2, g3, g4, g5, g6, _, gd⟩
    · exfalso
      rcases hc with ⟨y, hy, hyx⟩ | hc | hc
      · obtain ⟨z, hz, hz1, _⟩ := abs17_mem ha.symm hy
        exact h6 z hz (by omega)
      · omega
      · omega
    · obtain rfl : s = s2 := by omega
      have h7 := drain_abs (got := got) (insH_abs (s := s) (sl := sl) (sl2 := sl2) (L := L) ha)
      rw [hd, gd] at h7
      exact ⟨rfl, h7.2.1, h7.1, h7.2.2⟩
theorem nums17_abs {l l2 : List HE} (h : abs17 l = abs17 l2) : nums17 l = nums17 l2 := by
  have := congrArg (List.map (fun n : Nat => (n : Int))) (abs17_fst h)
  simpa [nums17, List.map_map, Function.comp_def] using this
theorem Kept.grown {a c : World} {b : Nat} (h : Kept (fun i => i = b) a c) : a.grownBy c (some b) := ⟨h.os, h.tape, h.output, h.size, fun i hi hne => h.block i hi (fun e => hne (by rw [e]))⟩
theorem Ext.grown {a c : World} (h : Ext a c) : a.grownBy c none := ⟨h.os, h.tape, h.output, h.size, fun i hi _ => h.block i hi⟩
theorem choose17 {P : HE → Sl → Prop} : ∀ (l : List HE), (∀ e ∈ l, ∃ sl, P e sl) → ∃ l2 : List HE, abs17 l2 = abs17 l ∧ ∀ e2 ∈ l2, ∃ e ∈ l, e2.1 = e.1 ∧ e2.2.2 = e.2.2 ∧ P e e2.2.1
  | [], _ => ⟨[], rfl, fun e he => (by cases he)⟩
  | e :: r, h => by
    obtain ⟨sl, hs⟩ := h e (by simp)
    obtain ⟨l2, h1, h2⟩ := choose17 r (fun e he => h e (by simp [he]))
    refine ⟨(e.1, sl, e.2.2) :: l2, abs17_cons.2 ⟨⟨rfl, rfl⟩, h1⟩, fun e2 he2 => ?_⟩
    rcases List.mem_cons.1 he2 with rfl | he2
    · exact ⟨e, by simp, rfl, rfl, hs⟩
    · obtain ⟨y, hy, h3⟩ := h2 e2 he2
      exact ⟨y, by simp [hy], h3⟩
/-- A clone under way: what it has are the keys that came. -/
structure ClIn (w wr : World) (g2 win got bm2 bm r n H1 m cnt : Nat) (D D2 : DataW Value) (HL : List HE) (left : Lit → Bool) : Prop where
  rng : wr.ranges Try.prog 3 RV bm r n D left cnt
  box : Whole wr g2 69 [.int .i64 (win : Int), .int .i64 (got : Int), .map (some bm2)]
  map : MapIn wr Try.prog 3 bm2 m D2
  mc : m + cnt ≤ n
  has2 : ∀ x : Int, has D2 (.int .i64 x) = true ↔ (has D (.int .i64 x) = true ∧ left (.int .i64 x) = false)
  at2 : ∀ e ∈ HL, left (.int .i64 (e.1 : Int)) = false → ∃ sl : Sl, D2.atKey (.int .i64 (e.1 : Int)) (.held nilS) = .held (.slice sl.1 sl.2.1 sl.2.2) ∧ Lies wr sl e.2.2 ∧ ∀ b, b < H1 → Off sl b
  below : Below w.heap.size w wr
  hi : H1 ≤ wr.heap.size
theorem ClIn.below' {w wr W : World} {g2 win got bm2 bm r n H1 m cnt : Nat} {D D2 : DataW Value} {HL : List HE} {left : Lit → Bool} (h : ClIn w wr g2 win got bm2 bm r n H1 m cnt D D2 HL left) (hb : Ext wr W) : ClIn w W g2 win got bm2 bm r n H1 m cnt D D2 HL left :=
  ⟨h.rng.kept hb.grown (by simp) (by simp), h.box.below hb, h.map.below hb, h.mc, h.has2, fun e he hl => by obtain ⟨sl, q1, q2, q3⟩ := h.at2 e he hl; exact ⟨sl, q1, q2.below hb, q3⟩, bel_bl h.below hb, Nat.le_trans h.hi hb.size⟩
theorem ClIn.done {B : Nat} {w0 w wr : World} {g g2 win got bm2 bm r n H1 m cnt : Nat} {D D2 : DataW Value} {HL : List HE} {left : Lit → Bool} (h0 : RvIn B w0 g win got bm n D HL) (h : ClIn w wr g2 win got bm2 bm r n H1 m cnt D D2 HL left) (hl : ∀ kl, left kl = false) (hg : w.heap.size ≤ g2) (hbm : w.heap.size ≤ bm2) (hne : bm2 ≠ g2) (hg1 : g2 < H1) (hb1 : bm2 < H1) (hw1 : w.heap.size ≤ H1) :
    ∃ HL2, RvIn w.heap.size wr g2 win got bm2 m D2 HL2 ∧ abs17 HL2 = abs17 HL ∧ ∀ e ∈ HL2, ∀ b, b < w.heap.size → Off e.2.1 b := by
  obtain ⟨HL2, hab, hP⟩ := choose17 (P := fun e sl => D2.atKey (.int .i64 (e.1 : Int)) (.held nilS) = .held (.slice sl.1 sl.2.1 sl.2.2) ∧ Lies wr sl e.2.2 ∧ ∀ b, b < H1 → Off sl b) HL (fun e he => h.at2 e he (hl _))
  refine ⟨HL2, ⟨h.box, hg, hbm, hne, h.map, fun x => ?_, fun e he => ?_, fun e he => ?_, ?_, fun e he => ?_, fun e he => ?_⟩, hab, fun e he b hb => ?_⟩
  · rw [h.has2 x, h0.has_ x]
    constructor
    · rintro ⟨⟨e, he, hx⟩, -⟩
      obtain ⟨e2, h2, h3, _⟩ := abs17_mem hab.symm he
      exact ⟨e2, h2, by rw [h3]; exact hx⟩
    · rintro ⟨e, he, hx⟩
      obtain ⟨e2, h2, h3, _⟩ := abs17_mem hab he
      exact ⟨⟨e2, h2, by rw [h3]; exact hx⟩, hl _⟩
  · obtain ⟨y, hy, h1, h2, h3, _⟩ := hP e he
    rw [h1]; exact h3
  · obtain ⟨y, hy, h1, h2, _, h4, h5⟩ := hP e he
    exact ⟨by rw [h2]; exact h4, h5 _ hg1, h5 _ hb1⟩
  · have h1 := List.pairwise_map.2 (h0.rise : HL.Pairwise (fun p q => (fun e : HE => e.1) p < (fun e : HE => e.1) q))
    rw [← abs17_fst hab] at h1
    exact List.pairwise_map.1 h1
  · obtain ⟨y, hy, h1, _⟩ := hP e he
    rw [h1]; exact h0.gt y hy
  · obtain ⟨y, hy, h1, _⟩ := hP e he
    rw [h1]; exact h0.le y hy
  · obtain ⟨y, hy, _, _, _, _, h5⟩ := hP e he
    exact h5 b (by omega)
theorem ClIn.step {B : Nat} {w0 w wr w2 wp w3 : World} {g g2 win got bm2 bm r n H1 m cnt cnt2 : Nat} {D D2 : DataW Value} {HL : List HE} {left : Lit → Bool} {e : HE} {sl : Sl} (h0 : RvIn B w0 g win got bm n D HL) (h : ClIn w wr g2 win got bm2 bm r n H1 m cnt D D2 HL left) (he : e ∈ HL) (hlk : left (.int .i64 (e.1 : Int)) = true)
    (hrg : w2.ranges Try.prog 3 RV bm r n D (fun z => left z && !z.sameKey (.int .i64 (e.1 : Int))) cnt2) (hlt : cnt2 < cnt) (hg2 : wr.grownBy w2 (some r)) (hx : Ext w2 wp) (hL : Lies wp sl e.2.2) (ho : ∀ b, b < H1 → Off sl b)
    (hm : MapIn w3 Try.prog 3 bm2 (m + 1) (D2.put (.int .i64 (e.1 : Int)) (.held (.slice sl.1 sl.2.1 sl.2.2)))) (hk : Kept (fun i => i = bm2) wp w3) (hr : r ≠ g2) (hrb : r ≠ bm2) (hbb : bm2 ≠ bm) (hne : bm2 ≠ g2) (hb1 : bm2 < H1) (hr1 : r < H1) (hrw : w.heap.size ≤ r) (hbw : w.heap.size ≤ bm2) :
    ClIn w w3 g2 win got bm2 bm r n H1 (m + 1) cnt2 D (D2.put (.int .i64 (e.1 : Int)) (.held (.slice sl.1 sl.2.1 sl.2.2))) HL (fun z => left z && !z.sameKey (.int .i64 (e.1 : Int))) := by
  have hk2 : Kept (fun i => i = r) wr w2 := Kept.of_grown hg2
  have hD2 := h.map.isMap
  have hmc := h.mc
  have hoff : ∀ {y : Sl}, (∀ b, b < H1 → Off y b) → (∀ b, b = r → Off y b) ∧ ∀ b, b = bm2 → Off y b := fun hy => ⟨fun b e => by rw [e]; exact hy _ hr1, fun b e => by rw [e]; exact hy _ hb1⟩
  refine ⟨(hrg.kept hx.grown (by simp) (by simp)).kept hk.grown (fun e' => hbb (Option.some.inj e').symm) (fun e' => hrb (Option.some.inj e')), hk.whole ((hk2.whole h.box (fun e' => hr e'.symm)).below hx) (fun e' => hne e'.symm), hm, by omega, fun x => ?_, fun y hy hly => ?_, ?_, ?_⟩
  · by_cases hxe : x = (e.1 : Int)
    · subst hxe
      rw [has_put_same hD2 (show WideAt.IsKeyLit (.int .i64 _) from trivial)]
      have : has D (.int .i64 (e.1 : Int)) = true := (h0.has_ _).2 ⟨e, he, rfl⟩
      simp [this, Lit.sameKey]
    · rw [has_put_other (by simpa using hxe), h.has2 x]
      simp [Lit.sameKey, hxe]
  · by_cases hye : y.1 = e.1
    · have hyy : y = e := by
        rcases List.mem_iff_getElem?.1 hy with ⟨i, hi⟩
        rcases List.mem_iff_getElem?.1 he with ⟨j, hj⟩
        have hi1 := List.getElem?_eq_some_iff.1 hi
        have hj1 := List.getElem?_eq_some_iff.1 hj
        have hp := List.pairwise_iff_getElem.1 h0.rise
        rcases Nat.lt_trichotomy i j with h1 | h1 | h1
        · have := hp i j hi1.1 hj1.1 h1
          rw [hi1.2, hj1.2] at this
          omega
        · subst h1; exact Option.some.inj (hi.symm.trans hj)
        · have := hp j i hj1.1 hi1.1 h1
          rw [hi1.2, hj1.2] at this
          omega
      rw [hyy]
      exact ⟨sl, atKey_put_same hD2 (show WideAt.IsKeyLit (.int .i64 _) from trivial) _ _, hL.keep hk (hoff ho).2, ho⟩
    · have hne' : ¬ ((y.1 : Int) = (e.1 : Int)) := fun h => hye (by omega)
      have hly2 : left (.int .i64 (y.1 : Int)) = false := by
        have h1 : (left (.int .i64 (y.1 : Int)) && !(Lit.int .i64 (y.1 : Int)).sameKey (.int .i64 (e.1 : Int))) = false := hly
        have h2 : (Lit.int .i64 (y.1 : Int)).sameKey (.int .i64 (e.1 : Int)) = false := by simp [Lit.sameKey, hne']
        rw [h2] at h1
        simpa using h1
      obtain ⟨s1, h1, h2, h3⟩ := h.at2 y hy hly2
      refine ⟨s1, by rw [atKey_put_other (by simpa using hne')]; exact h1, ((h2.keep hk2 (hoff h3).1).below hx).keep hk (hoff h3).2, h3⟩
  · have b1 : Below w.heap.size w w2 := h.below.trans (hk2.below h.below.size (fun i hi e' => by have h9 : i = r := e'; omega))
    have b2 := bel_bl b1 hx
    exact b2.trans (hk.below b2.size (fun i hi e' => by have h9 : i = bm2 := e'; omega))
  · exact Nat.le_trans h.hi (Nat.le_trans hk2.size (Nat.le_trans hx.size hk.size))
set_option maxRecDepth 100000 in
set_option maxHeartbeats 2000000 in
theorem rv_clone {B : Nat} {g win got bm n : Nat} {D : DataW Value} {HL : List HE} (w : World) (h : RvIn B w g win got bm n D HL) (hB : B ≤ w.heap.size) (hn : n ≤ 100000) :
    Calls Try.prog 27 #[.pointer (some ⟨g, 0, none⟩)] w fun e w' => ∃ (g2 bm2 n2 : Nat) (D2 : DataW Value) (HL2 : List HE), e = .returned (.pointer (some ⟨g2, 0, none⟩)) ∧ w.heap.size ≤ g2 ∧ w.heap.size ≤ bm2 ∧ RvIn w.heap.size w' g2 win got bm2 n2 D2 HL2 ∧ abs17 HL2 = abs17 HL ∧ (∀ e ∈ HL2, ∀ b, b < w.heap.size → Off e.2.1 b) ∧ n2 ≤ n ∧ Below w.heap.size w w' := by
  have H := Lib.hid h
  have ld0 : ∀ w', Kept Nil_ w.drew w' → w'.cell? ⟨g, 0, none⟩ = some (.int .i64 (win : Int)) := fun w' hk => hk.nil_cell (H.out.drew.box.cell (i := 0) rfl)
  have ld1 : ∀ w', Kept Nil_ w.drew w' → w'.cell? ⟨g, 1, none⟩ = some (.int .i64 (got : Int)) := fun w' hk => hk.nil_cell (H.out.drew.box.cell (i := 1) rfl)
  have hmm := @run_makeMap Try.prog
  clear h
  go_enter Try.func27, Try.ntmps27
  go_upto_region 1 with fail
  refine wp_region_reg (Nil_) (by kernel_rfl) ?_
  apply wpR_next 0 (some 6)
  · simp only [List.getElem?_toArray, List.getElem?_cons_succ, List.getElem?_cons_zero]; exact rfl
  · rfl
  · kernel_rfl
  · kernel_rfl
  · kernel_rfl
  · exact fun _ _ _ _ h => h
  apply Exists.intro
  apply And.intro
  · apply yr_run; rfl; intro w' hw'; go_simp; (try with_reducible rfl)
  simp only [Act.put, List.setIfInBounds_toArray, List.set_cons_zero, List.set_cons_succ]
  apply wpR_next 1 (some 7)
  · simp only [List.getElem?_toArray, List.getElem?_cons_succ, List.getElem?_cons_zero]; exact rfl
  · rfl
  · kernel_rfl
  · kernel_rfl
  · kernel_rfl
  · exact fun _ _ _ _ h => h
  apply Exists.intro
  apply And.intro
  · apply yr_run; rfl; intro w' hw'; go_simp; (try with_reducible rfl)
  simp only [Act.put, List.setIfInBounds_toArray, List.set_cons_zero, List.set_cons_succ]
  apply wpR_next 2 (some 8)
  · simp only [List.getElem?_toArray, List.getElem?_cons_succ, List.getElem?_cons_zero]; exact rfl
  · rfl
  · kernel_rfl
  · kernel_rfl
  · kernel_rfl
  · exact fun _ _ _ _ h => h
  apply Exists.intro
  apply And.intro
  · apply yr_run; rfl; intro w' hw'; go_simp; (try with_reducible rfl)
  simp only [Act.put, List.setIfInBounds_toArray, List.set_cons_zero, List.set_cons_succ]
  apply wpR_next 3 (some 9)
  · simp only [List.getElem?_toArray, List.getElem?_cons_succ, List.getElem?_cons_zero]; exact rfl
  · rfl
  · kernel_rfl
  · kernel_rfl
  · kernel_rfl
  · exact fun _ _ _ _ h => h
  apply Exists.intro
  apply And.intro
  · apply yr_run; rfl; intro w' hw'; go_simp; (try with_reducible rfl)
  simp only [Act.put, List.setIfInBounds_toArray, List.set_cons_zero, List.set_cons_succ]
  apply wpR_next 4 (some 10)
  · simp only [List.getElem?_toArray, List.getElem?_cons_succ, List.getElem?_cons_zero]; exact rfl
  · rfl
  · kernel_rfl
  · kernel_rfl
  · kernel_rfl
  · exact fun _ _ _ _ h => h
  apply Exists.intro
  apply And.intro
  · apply yr_run; rfl; intro w' hw'; go_simp; (try with_reducible rfl)
  simp only [Act.put, List.setIfInBounds_toArray, List.set_cons_zero, List.set_cons_succ]
  apply wpR_next 5 (some 11)
  · simp only [List.getElem?_toArray, List.getElem?_cons_succ, List.getElem?_cons_zero]; exact rfl
  · rfl
  · kernel_rfl
  · kernel_rfl
  · kernel_rfl
  · exact fun _ _ _ _ h => h
  apply Exists.intro
  apply And.intro
  · apply yr_run; rfl; intro w' hw'; go_simp; (try with_reducible rfl)
  simp only [Act.put, List.setIfInBounds_toArray, List.set_cons_zero, List.set_cons_succ]
  apply wpR_next 6 (some 12)
  · simp only [List.getElem?_toArray, List.getElem?_cons_succ, List.getElem?_cons_zero]; exact rfl
  · rfl
  · kernel_rfl
  · kernel_rfl
  · kernel_rfl
  · exact fun _ _ _ _ h => h
  apply Exists.intro
  apply And.intro
  · apply yr_run; rfl; intro w' hw'; go_simp; (try with_reducible rfl)
  simp only [Act.put, List.setIfInBounds_toArray, List.set_cons_zero, List.set_cons_succ]
  apply wpR_next 7 (some 13)
  · simp only [List.getElem?_toArray, List.getElem?_cons_succ, List.getElem?_cons_zero]; exact rfl
  · rfl
  · kernel_rfl
  · kernel_rfl
  · kernel_rfl
  · exact fun _ _ _ _ h => h
  apply Exists.intro
  apply And.intro
  · apply yr_run; rfl; intro w' hw'; go_simp; (try with_reducible rfl)
  simp only [Act.put, List.setIfInBounds_toArray, List.set_cons_zero, List.set_cons_succ]
  apply wpR_run 8 (some 14)
  · simp only [List.getElem?_toArray, List.getElem?_cons_succ, List.getElem?_cons_zero]; exact rfl
  · rfl
  · kernel_rfl
  · rfl
  intro w' hw'
  refine ⟨.map (some w'.heap.size), w'.alloc (.map #[] 0), ?_, Kept.of_below (below1 _ _), ?_⟩
  · go_simp; (try with_reducible rfl)
  have HXa : RowKit.Hid (Ext w (w'.alloc (.map #[] 0))) := Lib.hid (Ext.trans (Ext.trans ((Below.refl _ _).drew) hw') (below1 _ _))
  have HMa : RowKit.Hid (MapIn (w'.alloc (.map #[] 0)) Try.prog 3 w'.heap.size 0 (.map [])) := Lib.hid MapIn.made
  have Hba : RowKit.Hid (w.heap.size ≤ w'.heap.size) := Lib.hid (Nat.le_trans (Nat.le_refl _) hw'.size)
  obtain ⟨bm2, gbm2⟩ : ∃ x, w'.heap.size = x := ⟨_, rfl⟩
  obtain ⟨Wa, gWa⟩ : ∃ x, w'.alloc (.map #[] 0) = x := ⟨_, rfl⟩
  rw [gWa] at HXa HMa ⊢
  rw [gbm2] at HMa Hba ⊢
  clear hw' gWa gbm2
  simp only [Act.put, List.setIfInBounds_toArray, List.set_cons_zero, List.set_cons_succ]
  apply wpR_next 9 (some 15)
  · simp only [List.getElem?_toArray, List.getElem?_cons_succ, List.getElem?_cons_zero]; exact rfl
  · rfl
  · kernel_rfl
  · kernel_rfl
  · kernel_rfl
  · exact fun _ _ _ _ h => h
  apply Exists.intro
  apply And.intro
  · apply yr_run; rfl; intro w' hw'; go_simp; (try with_reducible rfl)
  simp only [Act.put, List.setIfInBounds_toArray, List.set_cons_zero, List.set_cons_succ]
  apply wpR_run 10 (some 16)
  · simp only [List.getElem?_toArray, List.getElem?_cons_succ, List.getElem?_cons_zero]; exact rfl
  · rfl
  · kernel_rfl
  · rfl
  intro w' hw'
  refine ⟨.pointer (some ⟨w'.heap.size, 0, none⟩), w'.alloc (.cells #[.int .i64 (win : Int), .int .i64 (got : Int), .map (some bm2)] 69), ?_, Kept.of_below (below1 _ _), ?_⟩
  · go_simp; (try with_reducible rfl)
  have HXb : RowKit.Hid (Ext w (w'.alloc (.cells #[.int .i64 (win : Int), .int .i64 (got : Int), .map (some bm2)] 69))) := Lib.hid (Ext.trans HXa.out (Ext.trans hw' (below1 _ _)))
  have HBx : RowKit.Hid (Whole (w'.alloc (.cells #[.int .i64 (win : Int), .int .i64 (got : Int), .map (some bm2)] 69)) w'.heap.size 69 [.int .i64 (win : Int), .int .i64 (got : Int), .map (some bm2)]) := Lib.hid (Whole.new_ _ _ [_, _, _])
  have HMp : RowKit.Hid (MapIn (w'.alloc (.cells #[.int .i64 (win : Int), .int .i64 (got : Int), .map (some bm2)] 69)) Try.prog 3 bm2 0 (.map [])) := Lib.hid ((HMa.out.below hw').below (below1 _ _))
  have Hgb : RowKit.Hid (bm2 < w'.heap.size ∧ w.heap.size ≤ w'.heap.size) := Lib.hid ⟨Nat.lt_of_lt_of_le HMa.out.lt hw'.size, Nat.le_trans HXa.out.size hw'.size⟩
  obtain ⟨g2, gg2⟩ : ∃ x, w'.heap.size = x := ⟨_, rfl⟩
  obtain ⟨Wb, gWb⟩ : ∃ x, w'.alloc (.cells #[.int .i64 (win : Int), .int .i64 (got : Int), .map (some bm2)] 69) = x := ⟨_, rfl⟩
  rw [gWb] at HXb HBx HMp ⊢
  rw [gg2] at HBx Hgb ⊢
  clear hw' gWb gg2 HXa HMa
  simp only [Act.put, List.setIfInBounds_toArray, List.set_cons_zero, List.set_cons_succ]
  apply wpR_next 11 (some 3)
  · simp only [List.getElem?_toArray, List.getElem?_cons_succ, List.getElem?_cons_zero]; exact rfl
  · rfl
  · kernel_rfl
  · kernel_rfl
  · kernel_rfl
  · exact fun _ _ _ _ h => h
  apply Exists.intro
  apply And.intro
  · apply yr_run; rfl; intro w' hw'; go_simp; (try with_reducible rfl)
  simp only [Act.put, List.setIfInBounds_toArray, List.set_cons_zero, List.set_cons_succ]
  refine wpR_done (by kernel_rfl) ?_ _
  intro W3 hw3
  have HX3 : RowKit.Hid (Ext w W3) := Lib.hid (Ext.trans HXb.out hw3)
  have HB3 := Lib.hid (HBx.out.below hw3)
  have HM3 := Lib.hid (HMp.out.below hw3)
  have H3 := Lib.hid (H.out.below HX3.out)
  have l2 := H3.out.box.cell (i := 2) rfl
  have hbl : bm < W3.heap.size := H3.out.map.lt
  clear hw3 hmm HXb HBx HMp
  go_wp2_with (first
    | (at_range; refine wpList_range_own _ rfl _ 67 rfl 3 32 (int_keyed Try.underlying3) Try.underlying67 RV bm n D rfl H3.out.map ?_; intro w0 hrg0 hg0 hs0))
  go_frame
  obtain ⟨r, gr⟩ : ∃ r, W3.heap.size = r := ⟨_, rfl⟩
  have HC0 : RowKit.Hid (ClIn w w0 g2 win got bm2 bm r n (r + 1) 0 (Maps.size D) D (.map []) HL (has D)) := Lib.hid (by
    have hx0 : Ext W3 w0 := ⟨hg0.os, hg0.tape, hg0.output, hg0.size, fun i hi => hg0.block i hi (by simp)⟩
    refine ⟨gr ▸ hrg0, HB3.out.below hx0, HM3.out.below hx0, by have := sizeD H3.out.map; omega, fun x => ?_, fun e he hl => ?_, bel_bl (Below.refl _ _ |>.trans (HX3.out.mono (Nat.le_refl _))) hx0, by omega⟩
    · cases has D (.int .i64 x) <;> simp [has]
    · have := (H3.out.has_ _).2 ⟨e, he, rfl⟩
      rw [this] at hl; cases hl)
  have Hgg : RowKit.Hid (w.heap.size ≤ g2 ∧ w.heap.size ≤ bm2 ∧ bm2 ≠ g2 ∧ g2 < r + 1 ∧ bm2 < r + 1 ∧ w.heap.size ≤ r + 1 ∧ r ≠ g2 ∧ r ≠ bm2 ∧ bm2 ≠ bm ∧ w.heap.size ≤ r) := Lib.hid (by
    have h1 := HB3.out.lt
    have h2 := HM3.out.lt
    have h3 := H.out.map.lt
    have h4 := HX3.out.size
    have h5 := Hgb.out
    have h6 := Hba.out
    exact ⟨by omega, by omega, by omega, by omega, by omega, by omega, by omega, by omega, by omega, by omega⟩)
  rw [gr]
  clear hrg0 hg0 hs0 l2 gr HB3 HM3 HX3
  go_loopw [] (fun wr => ∃ (m cnt : Nat) (D2 : DataW Value) (left : Lit → Bool), RowKit.Hid (ClIn w wr g2 win got bm2 bm r n (r + 1) m cnt D D2 HL left)) (fun wr => wr.rangeLeft bm r)
  case atStart => exact ⟨_, _, _, _, HC0⟩
  case round =>
    clear HC0
    obtain ⟨m, cnt, D2, left, HC⟩ := hrel
    have hrg := HC.out.rng
    go_wp2_with (first
      | (at_next; refine wpList_next_ranges _ rfl _ rfl 3 (int_keyed Try.underlying3) RV encZ (fun v : Value => v) (fun key kl hk => by obtain ⟨x, hx, _⟩ := Maps.keyOf_i64 Try.underlying3 hk; exact ⟨x, hx⟩) (fun v _ _ => ⟨v, rfl⟩) bm r n _ _ _ rfl hrg ?_ ?_))
    · intro hc0 hl0
      have Hl0 := Lib.hid hl0
      clear hl0 hc0 hrg
      go_wp2
      go_ret
      obtain ⟨q1, q2, q3, q4, q5, q6, -⟩ := Hgg.out
      obtain ⟨HL2, e1, e2, e3⟩ := ClIn.done H.out HC.out Hl0.out q1 q2 q3 q4 q5 q6
      exact ⟨g2, bm2, m, D2, HL2, rfl, q1, q2, e1, e2, e3, by have := HC.out.mc; omega, HC.out.below⟩
    · intro x c kl yd yp w2 cnt2 hkey hlk hv hat hrg2 hlt hg2 hs2 hen
      obtain ⟨x', ex, rfl, hwx⟩ := Maps.keyOf_i64 Try.underlying3 hkey
      obtain rfl : x = x' := encZ_inj ex
      obtain ⟨e, he, rfl⟩ := (H.out.has_ x).1 (has_true_of_atKey hat)
      obtain rfl : c = .slice e.2.1.1 e.2.1.2.1 e.2.1.2.2 := by
        have h1 : (DataW.held c : DataW Value) = yd := congrArg Prod.fst (Option.some.inj hv)
        have h2 := (hat (.held nilS)).symm.trans (H.out.at_ e he)
        try dsimp only at h2
        rw [← h1] at h2
        injection h2
      have Hstep : RowKit.Hid (∀ (wp w3 : World) (sl : Sl), Ext w2 wp → Lies wp sl e.2.2 → (∀ b, b < r + 1 → Off sl b) → MapIn w3 Try.prog 3 bm2 (m + 1) (D2.put (.int .i64 (e.1 : Int)) (.held (.slice sl.1 sl.2.1 sl.2.2))) → Kept (fun i => i = bm2) wp w3 → ClIn w w3 g2 win got bm2 bm r n (r + 1) (m + 1) cnt2 D (D2.put (.int .i64 (e.1 : Int)) (.held (.slice sl.1 sl.2.1 sl.2.2))) HL (fun z => left z && !z.sameKey (.int .i64 (e.1 : Int)))) := Lib.hid (fun wp w3 sl a1 a2 a3 a4 a5 => by
        obtain ⟨q1, q2, q3, q4, q5, q6, q7, q8, q9, q10⟩ := Hgg.out
        exact ClIn.step H.out HC.out he hlk hrg2 hlt hg2 a1 a2 a3 a4 a5 q7 q8 q9 q3 q5 (Nat.lt_succ_self _) q10 q2)
      have hk2 : Kept (fun i => i = r) wr w2 := Kept.of_grown hg2
      have HLe : RowKit.Hid (Lies w2 e.2.1 e.2.2) := Lib.hid (((H.out.each e he).1.keep (S := fun i => w.heap.size ≤ i) ⟨HC.out.below.os, HC.out.below.tape, HC.out.below.output, HC.out.below.size, fun i hi hne => HC.out.below.block i hi⟩ (fun b hb => (H.out.each e he).1.fresh hb)).keep hk2 (fun b hb => by
        have hb' : b = r := hb
        obtain ⟨q1, q2, q3, q4, q5, q6, q7, q8, q9, q10⟩ := Hgg.out
        rw [hb']
        exact (H.out.each e he).1.fresh q10))
      have HBx : RowKit.Hid (Whole w2 g2 69 [.int .i64 (win : Int), .int .i64 (got : Int), .map (some bm2)]) := Lib.hid (hk2.whole HC.out.box (fun e' => by
        have hb' : g2 = r := e'
        obtain ⟨q1, q2, q3, q4, q5, q6, q7, q8, q9, q10⟩ := Hgg.out
        omega))
      have HMx : RowKit.Hid (MapIn w2 Try.prog 3 bm2 m D2) := Lib.hid (HC.out.map.kept hk2 (fun e' => by
        have hb' : bm2 = r := e'
        obtain ⟨q1, q2, q3, q4, q5, q6, q7, q8, q9, q10⟩ := Hgg.out
        omega))
      have Hsz : RowKit.Hid (r + 1 ≤ w2.heap.size) := Lib.hid (Nat.le_trans HC.out.hi hk2.size)
      have hmn : m < 100001 := by have := HC.out.mc; omega
      have Hlt : RowKit.Hid (cnt2 < cnt) := Lib.hid hlt
      have Hrr := Lib.hid hrg
      clear hkey hlk hv hat hrg2 hlt hg2 hs2 hk2 ex hrg
      obtain ⟨eN, gN⟩ : ∃ z, e.1 = z := ⟨_, rfl⟩
      obtain ⟨⟨eA, en, ec⟩, gS⟩ : ∃ z, e.2.1 = z := ⟨_, rfl⟩
      obtain ⟨eL, gL⟩ : ∃ z, e.2.2 = z := ⟨_, rfl⟩
      rw [gN, gL] at Hstep
      rw [gS, gL] at HLe
      rw [gN, gS] at hen ⊢
      rw [gN] at hwx
      obtain rfl : en = eL.length := HLe.out.len
      clear gN gS gL he
      try dsimp only at hen ⊢
      go_upto_region 5 with fail
      clear hen
      have ld2 : ∀ w', Kept (fun b => b = bm2) w2.drew w' → w'.cell? ⟨g2, 2, none⟩ = some (.map (some bm2)) := fun w' hk => hk.cell (HBx.out.drew.cell (i := 2) rfl) (fun e' => by
        have hb' : g2 = bm2 := e'
        obtain ⟨q1, q2, q3, q4, q5, q6, q7, q8, q9, q10⟩ := Hgg.out
        omega)
      refine wp_region_tail (fun b => b = bm2) [7] (by kernel_rfl) ?_
      apply wpT_next 0 (some 27) (by kernel_rfl)
      · simp only [List.getElem?_toArray, List.getElem?_cons_succ, List.getElem?_cons_zero]; exact rfl
      · rfl
      · kernel_rfl
      · kernel_rfl
      · kernel_rfl
      · exact fun _ _ _ _ h => h
      apply Exists.intro
      apply And.intro
      · apply yr_run; rfl; intro w' hw'; go_simp; (try with_reducible rfl)
      simp only [Act.put, List.setIfInBounds_toArray, List.set_cons_zero, List.set_cons_succ]
      apply wpT_next 1 (some 28) (by kernel_rfl)
      · simp only [List.getElem?_toArray, List.getElem?_cons_succ, List.getElem?_cons_zero]; exact rfl
      · rfl
      · kernel_rfl
      · kernel_rfl
      · kernel_rfl
      · exact fun _ _ _ _ h => h
      apply Exists.intro
      apply And.intro
      · apply yr_run; rfl; intro w' hw'; go_simp; (try with_reducible rfl)
      simp only [Act.put, List.setIfInBounds_toArray, List.set_cons_zero, List.set_cons_succ]
      apply wpT_next 2 (some 29) (by kernel_rfl)
      · simp only [List.getElem?_toArray, List.getElem?_cons_succ, List.getElem?_cons_zero]; exact rfl
      · rfl
      · kernel_rfl
      · kernel_rfl
      · kernel_rfl
      · exact fun _ _ _ _ h => h
      apply Exists.intro
      apply And.intro
      · apply yr_run; rfl; intro w' hw'; go_simp; (try with_reducible rfl)
      simp only [Act.put, List.setIfInBounds_toArray, List.set_cons_zero, List.set_cons_succ]
      apply wpT_next 3 (some 30) (by kernel_rfl)
      · simp only [List.getElem?_toArray, List.getElem?_cons_succ, List.getElem?_cons_zero]; exact rfl
      · rfl
      · kernel_rfl
      · kernel_rfl
      · kernel_rfl
      · exact fun _ _ _ _ h => h
      apply Exists.intro
      apply And.intro
      · apply yr_run; rfl; intro w' hw'; go_simp; (try with_reducible rfl)
      simp only [Act.put, List.setIfInBounds_toArray, List.set_cons_zero, List.set_cons_succ]
      apply wpT_next 4 (some 31) (by kernel_rfl)
      · simp only [List.getElem?_toArray, List.getElem?_cons_succ, List.getElem?_cons_zero]; exact rfl
      · rfl
      · kernel_rfl
      · kernel_rfl
      · kernel_rfl
      · exact fun _ _ _ _ h => h
      apply Exists.intro
      apply And.intro
      · apply yr_run; rfl; intro w' hw'; go_simp; (try with_reducible rfl)
      simp only [Act.put, List.setIfInBounds_toArray, List.set_cons_zero, List.set_cons_succ]
      apply wpT_next 5 (some 32) (by kernel_rfl)
      · simp only [List.getElem?_toArray, List.getElem?_cons_succ, List.getElem?_cons_zero]; exact rfl
      · rfl
      · kernel_rfl
      · kernel_rfl
      · kernel_rfl
      · exact fun _ _ _ _ h => h
      apply Exists.intro
      apply And.intro
      · apply yr_run; rfl; intro w' hw'; go_simp; (try with_reducible rfl)
      simp only [Act.put, List.setIfInBounds_toArray, List.set_cons_zero, List.set_cons_succ]
      apply wpT_call 6 (some 33)
      · simp only [List.getElem?_toArray, List.getElem?_cons_succ, List.getElem?_cons_zero]; exact rfl
      · rfl
      · kernel_rfl
      · rfl
      · intro w'; go_simp; first | done | exact ⟨rfl, rfl⟩ | with_reducible rfl
      intro w' hw'
      refine (clone_gen eA ec eL w' ((HLe.out.row.dr).bl hw') (by have := HLe.out.l60; omega)).mono ?_
      rintro e'' w'' ⟨Ac, cc, rfl, hrc, hnc, -, hb⟩
      refine ⟨_, rfl, Kept.of_below hb, ?_⟩
      have HXc : RowKit.Hid (Ext w2 w'') := Lib.hid (Ext.trans (Ext.trans ((Below.refl _ _).drew) hw') hb)
      have HLi : RowKit.Hid (Lies w'' (Ac, eL.length, cc) eL) := Lib.hid ⟨rfl, hrc, HLe.out.b256, HLe.out.l60⟩
      have HNc : RowKit.Hid (∀ b, b < r + 1 → Off ((Ac, eL.length, cc) : Sl) b) := Lib.hid (fun b hb' a ha h0 e' => by have h1 := hnc a ha h0; have h2 := Hsz.out; have h3 := hw'.size; have h4 : w2.drew.heap.size = w2.heap.size := rfl; omega)
      obtain ⟨W2, gW2⟩ : ∃ x, w'' = x := ⟨_, rfl⟩
      rw [gW2] at HXc HLi ⊢
      clear hw' hb hrc hnc gW2
      simp only [Act.put, List.setIfInBounds_toArray, List.set_cons_zero, List.set_cons_succ]
      apply wpT_last 7
      · simp only [List.getElem?_toArray, List.getElem?_cons_succ, List.getElem?_cons_zero]; exact rfl
      · rfl
      · kernel_rfl
      · rfl
      · decide
      intro w' hw'
      obtain ⟨w3, hrun, hm, hk⟩ := (HMx.out.below (Ext.trans HXc.out hw')).put Try.underlying3 Try.underlying67 (by unfold maxLen; omega) hwx (.slice Ac eL.length cc)
      refine ⟨w3, exec_mapUpdate (by rfl) (by rfl) (by rfl) (by rfl) hrun, ?_⟩
      have HSt := Lib.hid (Hstep.out w' w3 (Ac, eL.length, cc) (Ext.trans HXc.out hw') (HLi.out.below hw') HNc.out hm hk)
      obtain ⟨W3, gW3⟩ : ∃ x, w3 = x := ⟨_, rfl⟩
      rw [gW3] at HSt ⊢
      clear hw' hrun hm hk gW3 HXc HLi HNc
      try simp only [Act.put, List.setIfInBounds_toArray, List.set_cons_zero, List.set_cons_succ]
      refine wpT_done (by kernel_rfl) ?_ _
      intro Wz hwz
      have HCz : RowKit.Hid (ClIn w Wz g2 win got bm2 bm r n (r + 1) (m + 1) cnt2 D (D2.put (.int .i64 (eN : Int)) (.held (.slice Ac eL.length cc))) HL (fun z => left z && !z.sameKey (.int .i64 (eN : Int)))) := Lib.hid (HSt.out.below' hwz)
      clear hwz HSt ld2
      go_wp2
      go_roundw
      case rel => exact ⟨_, _, _, _, HCz⟩
      case measure => rw [HCz.out.rng.left_eq, Hrr.out.left_eq]; exact Hlt.out
set_option maxRecDepth 100000 in
set_option maxHeartbeats 1000000 in
theorem same17 (A1 A2 : Option Addr) (n c1 c2 : Nat) (es1 es2 : List Sl) (Ls : List (List Nat)) (w : World) (h1 : RdS w w.heap.size 1 A1 n c1 (rowsV slc es1)) (h2 : RdS w w.heap.size 1 A2 n c2 (rowsV slc es2)) (hn : n = Ls.length) (hn2 : n ≤ 100000)
    (l1 : ∀ (i : Nat) (L : List Nat), Ls[i]? = some L → ∃ e, es1[i]? = some e ∧ Lies w e L) (l2 : ∀ (i : Nat) (L : List Nat), Ls[i]? = some L → ∃ e, es2[i]? = some e ∧ Lies w e L) :
    Calls Try.prog 31 #[.slice A1 n c1, .slice A2 n c2] w fun e w' => e = .returned (.bool true) ∧ Below w.heap.size w w' := by
  have H1 := Lib.hid h1
  have H2 := Lib.hid h2
  have L1 := Lib.hid l1
  have L2 := Lib.hid l2
  have Hn := Lib.hid hn
  clear h1 h2 l1 l2 hn
  go_enter Try.func31, Try.ntmps31
  go_wp2
  go_loopw [5] (fun si wr => ∃ j : Nat, j ≤ n ∧ si = .int .i64 j ∧ RowKit.Hid (Below w.heap.size w wr)) (fun si _ => n - (intOf si).toNat)
  case atStart => exact ⟨0, Nat.zero_le _, rfl, Lib.hid (Below.refl _ _)⟩
  case round =>
    obtain ⟨j, hj, rfl, HB⟩ := hrel
    by_cases hjn : j < n
    · obtain ⟨L, hL⟩ : ∃ L, Ls[j]? = some L := ⟨_, List.getElem?_eq_getElem (by have := Hn.out; omega)⟩
      obtain ⟨⟨a1, m1, k1⟩, q1, r1⟩ := L1.out j L hL
      obtain ⟨⟨a2, m2, k2⟩, q2, r2⟩ := L2.out j L hL
      obtain rfl : m1 = L.length := r1.len
      obtain rfl : m2 = L.length := r2.len
      obtain ⟨b1, o1, rfl, hb1, hp1⟩ := H1.out.place slc_len (by decide) (by omega)
      obtain ⟨b2, o2, rfl, hb2, hp2⟩ := H2.out.place slc_len (by decide) (by omega)
      have x1 := hp1 j _ q1 0 _ rfl
      have x2 := hp2 j _ q2 0 _ rfl
      rw [Addr.add_lit] at x1 x2
      simp only [Nat.add_zero, Nat.mul_one] at x1 x2
      have y1 := (HB.out.cell (p := ⟨b1, o1 + j, none⟩) hb1).trans x1
      have y2 := (HB.out.cell (p := ⟨b2, o2 + j, none⟩) hb2).trans x2
      have KB : ∀ {u v : World}, Kept Nil_ u v → Below u.heap.size u v := fun h => h.below (Nat.le_refl _) (fun _ _ h => h)
      have ld1 : ∀ w', Kept Nil_ wr.drew w' → w'.cell? ⟨b1, o1 + j, none⟩ = some (.slice a1 L.length k1) := fun w' hk => hk.nil_cell (show wr.drew.cell? ⟨b1, o1 + j, none⟩ = _ from y1)
      have ld2 : ∀ w', Kept Nil_ wr.drew w' → w'.cell? ⟨b2, o2 + j, none⟩ = some (.slice a2 L.length k2) := fun w' hk => hk.nil_cell (show wr.drew.cell? ⟨b2, o2 + j, none⟩ = _ from y2)
      have HBd := Lib.hid (bel_dr HB.out)
      obtain ⟨T, gT⟩ : ∃ y, txt L = y := ⟨_, rfl⟩
      have HT1 : RowKit.Hid (∀ w', Kept Nil_ wr.drew w' → (convert 32 9 (.slice a1 L.length k1)).run Try.prog w' = .ok (.string T) w') := Lib.hid (fun w' hk => gT ▸ conv_txt ((r1.row.up HBd.out HBd.out.size).bl (KB hk)))
      have HT2 : RowKit.Hid (∀ w', Kept Nil_ wr.drew w' → (convert 32 9 (.slice a2 L.length k2)).run Try.prog w' = .ok (.string T) w') := Lib.hid (fun w' hk => gT ▸ conv_txt ((r2.row.up HBd.out HBd.out.size).bl (KB hk)))
      clear hL q1 q2 r1 r2 hp1 hp2 x1 x2 y1 y2 gT KB hb1 hb2 HBd
      go_upto_region 6 with fail
      refine wp_region_reg (Nil_) (by kernel_rfl) ?_
      apply wpR_next 0 (some 17)
      · simp only [List.getElem?_toArray, List.getElem?_cons_succ, List.getElem?_cons_zero]; exact rfl
      · rfl
      · kernel_rfl
      · kernel_rfl
      · kernel_rfl
      · exact fun _ _ _ _ h => h
      apply Exists.intro
      apply And.intro
      · apply yr_run; rfl; intro w' hw'; go_simp; (try with_reducible rfl)
      simp only [Act.put, List.setIfInBounds_toArray, List.set_cons_zero, List.set_cons_succ]
      apply wpR_next 1 (some 18)
      · simp only [List.getElem?_toArray, List.getElem?_cons_succ, List.getElem?_cons_zero]; exact rfl
      · rfl
      · kernel_rfl
      · kernel_rfl
      · kernel_rfl
      · exact fun _ _ _ _ h => h
      apply Exists.intro
      apply And.intro
      · apply yr_run; rfl; intro w' hw'; go_simp; (try with_reducible rfl)
      simp only [Act.put, List.setIfInBounds_toArray, List.set_cons_zero, List.set_cons_succ]
      apply wpR_next 2 (some 19)
      · simp only [List.getElem?_toArray, List.getElem?_cons_succ, List.getElem?_cons_zero]; exact rfl
      · rfl
      · kernel_rfl
      · kernel_rfl
      · kernel_rfl
      · exact fun _ _ _ _ h => h
      apply Exists.intro
      apply And.intro
      · apply yr_run; rfl; intro w' hw'; go_simp; (try with_reducible rfl)
      simp only [Act.put, List.setIfInBounds_toArray, List.set_cons_zero, List.set_cons_succ]
      apply wpR_next 3 (some 20)
      · simp only [List.getElem?_toArray, List.getElem?_cons_succ, List.getElem?_cons_zero]; exact rfl
      · rfl
      · kernel_rfl
      · kernel_rfl
      · kernel_rfl
      · exact fun _ _ _ _ h => h
      apply Exists.intro
      apply And.intro
      · apply yr_run; rfl; intro w' hw'; go_simp; (try with_reducible rfl)
      simp only [Act.put, List.setIfInBounds_toArray, List.set_cons_zero, List.set_cons_succ]
      apply wpR_next 4 (some 21)
      · simp only [List.getElem?_toArray, List.getElem?_cons_succ, List.getElem?_cons_zero]; exact rfl
      · rfl
      · kernel_rfl
      · kernel_rfl
      · kernel_rfl
      · exact fun _ _ _ _ h => h
      apply Exists.intro
      apply And.intro
      · exact yr_run (by rfl) (fun w' h => exec_convert 32 9 (.tmp 20) rfl rfl (HT1.out w' h))
      simp only [Act.put, List.setIfInBounds_toArray, List.set_cons_zero, List.set_cons_succ]
      apply wpR_next 5 (some 22)
      · simp only [List.getElem?_toArray, List.getElem?_cons_succ, List.getElem?_cons_zero]; exact rfl
      · rfl
      · kernel_rfl
      · kernel_rfl
      · kernel_rfl
      · exact fun _ _ _ _ h => h
      apply Exists.intro
      apply And.intro
      · apply yr_run; rfl; intro w' hw'; go_simp; (try with_reducible rfl)
      simp only [Act.put, List.setIfInBounds_toArray, List.set_cons_zero, List.set_cons_succ]
      apply wpR_next 6 (some 23)
      · simp only [List.getElem?_toArray, List.getElem?_cons_succ, List.getElem?_cons_zero]; exact rfl
      · rfl
      · kernel_rfl
      · kernel_rfl
      · kernel_rfl
      · exact fun _ _ _ _ h => h
      apply Exists.intro
      apply And.intro
      · apply yr_run; rfl; intro w' hw'; go_simp; (try with_reducible rfl)
      simp only [Act.put, List.setIfInBounds_toArray, List.set_cons_zero, List.set_cons_succ]
      apply wpR_next 7 (some 24)
      · simp only [List.getElem?_toArray, List.getElem?_cons_succ, List.getElem?_cons_zero]; exact rfl
      · rfl
      · kernel_rfl
      · kernel_rfl
      · kernel_rfl
      · exact fun _ _ _ _ h => h
      apply Exists.intro
      apply And.intro
      · apply yr_run; rfl; intro w' hw'; go_simp; (try with_reducible rfl)
      simp only [Act.put, List.setIfInBounds_toArray, List.set_cons_zero, List.set_cons_succ]
      apply wpR_next 8 (some 25)
      · simp only [List.getElem?_toArray, List.getElem?_cons_succ, List.getElem?_cons_zero]; exact rfl
      · rfl
      · kernel_rfl
      · kernel_rfl
      · kernel_rfl
      · exact fun _ _ _ _ h => h
      apply Exists.intro
      apply And.intro
      · apply yr_run; rfl; intro w' hw'; go_simp; (try with_reducible rfl)
      simp only [Act.put, List.setIfInBounds_toArray, List.set_cons_zero, List.set_cons_succ]
      apply wpR_next 9 (some 26)
      · simp only [List.getElem?_toArray, List.getElem?_cons_succ, List.getElem?_cons_zero]; exact rfl
      · rfl
      · kernel_rfl
      · kernel_rfl
      · kernel_rfl
      · exact fun _ _ _ _ h => h
      apply Exists.intro
      apply And.intro
      · exact yr_run (by rfl) (fun w' h => exec_convert 32 9 (.tmp 25) rfl rfl (HT2.out w' h))
      simp only [Act.put, List.setIfInBounds_toArray, List.set_cons_zero, List.set_cons_succ]
      apply wpR_next 10 (some 27)
      · simp only [List.getElem?_toArray, List.getElem?_cons_succ, List.getElem?_cons_zero]; exact rfl
      · rfl
      · kernel_rfl
      · kernel_rfl
      · kernel_rfl
      · exact fun _ _ _ _ h => h
      apply Exists.intro
      apply And.intro
      · apply yr_run; rfl; intro w' hw'; go_simp; (try with_reducible rfl)
      simp only [Act.put, List.setIfInBounds_toArray, List.set_cons_zero, List.set_cons_succ]
      refine wpR_done (by kernel_rfl) ?_ _
      intro W5 hw5
      have HB5 : RowKit.Hid (Below w.heap.size w W5) := Lib.hid (bel_bl HB.out (Ext.trans ((Below.refl _ _).drew) hw5))
      clear hw5 ld1 ld2 HB HT1 HT2
      go_wp2
      go_roundw
      case rel => exact ⟨j + 1, by omega, by go_num, HB5⟩
      case measure => simp [intOf]; omega
    · obtain rfl : n = j := by omega
      go_wp2
      go_ret
      exact ⟨rfl, HB.out⟩
end Go.Proofs.Ythfngmlnmpbcpaa
