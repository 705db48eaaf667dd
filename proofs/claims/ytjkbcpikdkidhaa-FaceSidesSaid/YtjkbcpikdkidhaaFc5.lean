/- Share. -/
import Derived.Test.YtjkbcpikdkidhaaFc4
namespace Go.Proofs.Ytjkbcpikdkidhaa
open Go.RowKit
set_option linter.unusedSimpArgs false
set_option linter.unusedVariables false


attribute [local go_sem] Oper.semAt_some

/-- y has come. -/
def HasD (p : List D2) (y : D) : Prop := y ∈ p.map (·.1)
/-- No panic is asked of. -/
def np (Q : Exit → Act → World → Prop) : Exit → Act → World → Prop
  | .panic _, _, _ => False
  | e, a, w => Q e a w
theorem wp_np {P : Program} {c : Code} {Q : Exit → Act → World → Prop} {a : Act} {w : World} (h : c.wp P (np Q) a w) : c.wp P Q a w :=
  Code.wp_mono (fun e a w q => by cases e <;> first | exact q | exact q.elim) h
theorem np_ok {Q : Exit → Act → World → Prop} {a : Act} {w : World} (h : Q .normal a w) : np Q .normal a w := h
set_option maxRecDepth 100000 in
set_option maxHeartbeats 4000000 in
theorem share_any (A : Option Addr) (n c : Nat) (Vs : List VC) (B : Option Addr) (m k : Nat) (Es : List EC) (x1 x2 x3 : Int) (y1 y2 y3 : Int) (w : World) (h : DgIn w A n c Vs B m k Es) (hn : n ≤ 1000000) (hr : ∀ x ∈ Vs, x.2.1.2.1 ≤ 1000000) (hs : ∀ v ∈ Vs, ∀ d ∈ v.2.1.2.2.2, wfS d)
    (hx : wfD (x1, x2, x3)) (hK : ∀ S, KeysD (sigM Vs) S → S.length ≤ 1000000) :
    Calls Try.prog 28 #[.agg #[.slice A n c, .slice B m k], .agg #[.int .i64 x1, .int .i64 x2, .int .i64 x3], .agg #[.int .i64 y1, .int .i64 y2, .int .i64 y3]] w fun e w' => ∃ S, KeysD (sigM Vs) S ∧ e = .returned (.bool (decide ((y1, y2, y3) ∈ faceL (sigM Vs) S.length (x1, x2, x3)))) ∧ Below w.heap.size w w' := by
  have HD := Lib.hid h
  have Hn := Lib.hid hn
  have Hr := Lib.hid hr
  have Hs := Lib.hid hs
  have Hx := Lib.hid hx
  have HK := Lib.hid hK
  clear h hn hr hs hx hK
  refine (callsIn_wide (n := 0)).1 ?_
  refine callsIn_of_wp_marks Try.func28 rfl trivial ?_
  simp only [Try.ntmps28, List.size_toArray, List.length_cons, List.length_nil, Nat.reduceAdd, Nat.reduceSub, Array.replicate_succ, Array.replicate_zero, List.push_toArray, List.append_toArray, List.nil_append, List.cons_append]
  refine wpIn_wide.2 ?_
  go_upto_region 1 with fail
  have hx0 : Whole ((((w.alloc (.cells #[.slice A n c, .slice B m k] 25)).alloc (.cells #[.int .i64 x1, .int .i64 x2, .int .i64 x3] 29)).alloc (.cells #[.int .i64 y1, .int .i64 y2, .int .i64 y3] 29)).alloc (.cells #[.bool false] 4)) (w.heap.size) 25 [.slice A n c, .slice B m k] := ((((Whole.new_ w 25 [.slice A n c, .slice B m k]).alloc (.cells #[.int .i64 x1, .int .i64 x2, .int .i64 x3] 29)).alloc (.cells #[.int .i64 y1, .int .i64 y2, .int .i64 y3] 29)).alloc (.cells #[.bool false] 4))
  have hx1 : Whole ((((w.alloc (.cells #[.slice A n c, .slice B m k] 25)).alloc (.cells #[.int .i64 x1, .int .i64 x2, .int .i64 x3] 29)).alloc (.cells #[.int .i64 y1, .int .i64 y2, .int .i64 y3] 29)).alloc (.cells #[.bool false] 4)) (w.heap.size + 1) 29 [.int .i64 x1, .int .i64 x2, .int .i64 x3] := (((Whole.new2 (w := (w.alloc (.cells #[.slice A n c, .slice B m k] 25))) (by simp)).alloc (.cells #[.int .i64 y1, .int .i64 y2, .int .i64 y3] 29)).alloc (.cells #[.bool false] 4))
  have hx2 : Whole ((((w.alloc (.cells #[.slice A n c, .slice B m k] 25)).alloc (.cells #[.int .i64 x1, .int .i64 x2, .int .i64 x3] 29)).alloc (.cells #[.int .i64 y1, .int .i64 y2, .int .i64 y3] 29)).alloc (.cells #[.bool false] 4)) (w.heap.size + 1 + 1) 29 [.int .i64 y1, .int .i64 y2, .int .i64 y3] := ((Whole.new2 (w := ((w.alloc (.cells #[.slice A n c, .slice B m k] 25)).alloc (.cells #[.int .i64 x1, .int .i64 x2, .int .i64 x3] 29))) (by simp)).alloc (.cells #[.bool false] 4))
  have hx3 : Whole ((((w.alloc (.cells #[.slice A n c, .slice B m k] 25)).alloc (.cells #[.int .i64 x1, .int .i64 x2, .int .i64 x3] 29)).alloc (.cells #[.int .i64 y1, .int .i64 y2, .int .i64 y3] 29)).alloc (.cells #[.bool false] 4)) (w.heap.size + 1 + 1 + 1) 4 [.bool false] := (Whole.new2 (w := (((w.alloc (.cells #[.slice A n c, .slice B m k] 25)).alloc (.cells #[.int .i64 x1, .int .i64 x2, .int .i64 x3] 29)).alloc (.cells #[.int .i64 y1, .int .i64 y2, .int .i64 y3] 29))) (by simp))
  have hbl : Below w.heap.size w ((((w.alloc (.cells #[.slice A n c, .slice B m k] 25)).alloc (.cells #[.int .i64 x1, .int .i64 x2, .int .i64 x3] 29)).alloc (.cells #[.int .i64 y1, .int .i64 y2, .int .i64 y3] 29)).alloc (.cells #[.bool false] 4)) := (bel_al (bel_al (bel_al (below1 w (.cells #[.slice A n c, .slice B m k] 25)) (.cells #[.int .i64 x1, .int .i64 x2, .int .i64 x3] 29)) (.cells #[.int .i64 y1, .int .i64 y2, .int .i64 y3] 29)) (.cells #[.bool false] 4))
  have hsz : w.heap.size + 1 + 1 + 1 + 1 ≤ (((((w.alloc (.cells #[.slice A n c, .slice B m k] 25)).alloc (.cells #[.int .i64 x1, .int .i64 x2, .int .i64 x3] 29)).alloc (.cells #[.int .i64 y1, .int .i64 y2, .int .i64 y3] 29)).alloc (.cells #[.bool false] 4))).heap.size := by simp
  obtain ⟨W0, gW0⟩ : ∃ z, ((((w.alloc (.cells #[.slice A n c, .slice B m k] 25)).alloc (.cells #[.int .i64 x1, .int .i64 x2, .int .i64 x3] 29)).alloc (.cells #[.int .i64 y1, .int .i64 y2, .int .i64 y3] 29)).alloc (.cells #[.bool false] 4)) = z := ⟨_, rfl⟩
  rw [gW0] at hx0 hx1 hx2 hx3 hbl hsz
  obtain ⟨b3, gb3⟩ : ∃ z, w.heap.size + 1 + 1 + 1 = z := ⟨_, rfl⟩
  rw [gb3] at hx3
  obtain ⟨b2, gb2⟩ : ∃ z, w.heap.size + 1 + 1 = z := ⟨_, rfl⟩
  rw [gb2] at hx2
  obtain ⟨b1, gb1⟩ : ∃ z, w.heap.size + 1 = z := ⟨_, rfl⟩
  rw [gb1] at hx1
  obtain ⟨b0, gb0⟩ : ∃ z, w.heap.size = z := ⟨_, rfl⟩
  rw [gb0] at hx0
  have HX0 := Lib.hid hx0
  have HX1 := Lib.hid hx1
  have HX2 := Lib.hid hx2
  have HX3 := Lib.hid hx3
  have HB0 := Lib.hid hbl
  have HS0 := Lib.hid hsz
  have Gb0 := Lib.hid gb0
  have Lb0 : RowKit.Hid (w.heap.size ≤ b0) := Lib.hid (by omega)
  have Gb1 := Lib.hid gb1
  have Lb1 : RowKit.Hid (w.heap.size ≤ b1) := Lib.hid (by omega)
  have Gb2 := Lib.hid gb2
  have Lb2 : RowKit.Hid (w.heap.size ≤ b2) := Lib.hid (by omega)
  have Gb3 := Lib.hid gb3
  have Lb3 : RowKit.Hid (w.heap.size ≤ b3) := Lib.hid (by omega)
  have N01 : RowKit.Hid (b0 ≠ b1) := Lib.hid (by omega)
  have N02 : RowKit.Hid (b0 ≠ b2) := Lib.hid (by omega)
  have N03 : RowKit.Hid (b0 ≠ b3) := Lib.hid (by omega)
  have N12 : RowKit.Hid (b1 ≠ b2) := Lib.hid (by omega)
  have N13 : RowKit.Hid (b1 ≠ b3) := Lib.hid (by omega)
  have N23 : RowKit.Hid (b2 ≠ b3) := Lib.hid (by omega)
  rw [gW0, gb3, gb2, gb1, gb0]
  clear gW0 hbl hsz hx0 hx1 hx2 hx3 gb0 gb1 gb2 gb3
  have ld0 : ∀ w', Kept Nil_ W0.drew w' → w'.cell? ⟨b0, 0, none⟩ = some (.slice A n c) := fun w' h => h.nil_cell (HX0.out.dr.cell (i := 0) rfl)
  have ld1 : ∀ w', Kept Nil_ W0.drew w' → w'.cell? ⟨b0, 1, none⟩ = some (.slice B m k) := fun w' h => h.nil_cell (HX0.out.dr.cell (i := 1) rfl)
  have ld2 : ∀ w', Kept Nil_ W0.drew w' → w'.cell? ⟨b1, 0, none⟩ = some (.int .i64 x1) := fun w' h => h.nil_cell (HX1.out.dr.cell (i := 0) rfl)
  have ld3 : ∀ w', Kept Nil_ W0.drew w' → w'.cell? ⟨b1, 1, none⟩ = some (.int .i64 x2) := fun w' h => h.nil_cell (HX1.out.dr.cell (i := 1) rfl)
  have ld4 : ∀ w', Kept Nil_ W0.drew w' → w'.cell? ⟨b1, 2, none⟩ = some (.int .i64 x3) := fun w' h => h.nil_cell (HX1.out.dr.cell (i := 2) rfl)
  refine wp_np ?_
  refine wp_region_tail (Nil_) [] (by kernel_rfl) ?_
  apply wpT_next 0 (some 8) (by kernel_rfl)
  · simp only [List.getElem?_toArray, List.getElem?_cons_succ, List.getElem?_cons_zero]; exact rfl
  · rfl
  · kernel_rfl
  · kernel_rfl
  · kernel_rfl
  · exact fun _ _ _ _ h => h
  apply Exists.intro
  apply And.intro
  · apply yr_run; rfl; intro w' hw'; go_simp; (try with_reducible rfl)
  simp only [Act.put, List.setIfInBounds_toArray, List.set_cons_zero, List.set_cons_succ]
  apply wpT_next 2 (some 10) (by kernel_rfl)
  · simp only [List.getElem?_toArray, List.getElem?_cons_succ, List.getElem?_cons_zero]; exact rfl
  · rfl
  · kernel_rfl
  · kernel_rfl
  · kernel_rfl
  · exact fun _ _ _ _ h => h
  apply Exists.intro
  apply And.intro
  · apply yr_run; rfl; intro w' hw'; go_simp; (try with_reducible rfl)
  simp only [Act.put, List.setIfInBounds_toArray, List.set_cons_zero, List.set_cons_succ]
  apply wpT_call 1 (some 9)
  · simp only [List.getElem?_toArray, List.getElem?_cons_succ, List.getElem?_cons_zero]; exact rfl
  · rfl
  · kernel_rfl
  · rfl
  · intro w'; go_simp; first | done | exact ⟨rfl, rfl⟩ | with_reducible rfl
  intro w' hw'
  refine (sigmas_any A n c Vs B m k Es w' (HD.out.bl (bel_bl (bel_dr HB0.out) hw')) Hn.out Hr.out (fun v hv d hd => (Hs.out v hv d hd).1)).mono ?_
  rintro e w2 ⟨bm, q, S, rfl, hm2, hq2, hbm, hb2⟩
  refine ⟨_, rfl, Kept.of_below hb2, ?_⟩
  have HM2 := Lib.hid hm2
  have HKS := Lib.hid hm2.keysD
  have HB2 := Lib.hid (bel_bl (bel_bl (bel_dr HB0.out) hw') hb2)
  have HYb2 := Lib.hid ((HX2.out.dr.bl hw').bl hb2)
  have HZb2 := Lib.hid ((HX3.out.dr.bl hw').bl hb2)
  have Hn2 : RowKit.Hid (b3 < bm) := Lib.hid (by have := HX3.out.lt; have := hw'.size; have : W0.drew.heap.size = W0.heap.size := rfl; omega)
  obtain ⟨V2, gV2⟩ : ∃ z, w2 = z := ⟨_, rfl⟩
  rw [gV2] at HM2 HB2 HYb2 HZb2 ⊢
  clear hw' hm2 hq2 hbm hb2 gV2 ld0 ld1 ld2 ld3 ld4 HX2 HX3
  simp only [Act.put, List.setIfInBounds_toArray, List.set_cons_zero, List.set_cons_succ]
  apply wpT_call 3 (some 11)
  · simp only [List.getElem?_toArray, List.getElem?_cons_succ, List.getElem?_cons_zero]; exact rfl
  · rfl
  · kernel_rfl
  · rfl
  · intro w'; go_simp; first | done | exact ⟨rfl, rfl⟩ | with_reducible rfl
  intro w' hw'
  refine (round_any bm x1 x2 x3 w').mono ?_
  rintro e w3 ⟨rfl, rfl⟩
  refine ⟨_, rfl, Kept.of_below (below2 w' _ _), ?_⟩
  have HM3 := Lib.hid (((HM2.out.bl hw').al (.cells #[.map (some bm)] 76)).al (.cells #[.int .i64 x1, .int .i64 x2, .int .i64 x3] 29))
  have HN3 := Lib.hid ((Whole.new_ w' 76 [.map (some bm)]).al (.cells #[.int .i64 x1, .int .i64 x2, .int .i64 x3] 29))
  have HX3 := Lib.hid (Whole.new2 (w := w'.alloc (.cells #[.map (some bm)] 76)) (g := w'.heap.size + 1) (t := 29) (cs := [.int .i64 x1, .int .i64 x2, .int .i64 x3]) (by simp))
  have HB3 := Lib.hid (bel_al (bel_al (bel_bl HB2.out hw') (.cells #[.map (some bm)] 76)) (.cells #[.int .i64 x1, .int .i64 x2, .int .i64 x3] 29))
  have HYb3 := Lib.hid (((HYb2.out.bl hw').al (.cells #[.map (some bm)] 76)).al (.cells #[.int .i64 x1, .int .i64 x2, .int .i64 x3] 29))
  have HZb3 := Lib.hid (((HZb2.out.bl hw').al (.cells #[.map (some bm)] 76)).al (.cells #[.int .i64 x1, .int .i64 x2, .int .i64 x3] 29))
  have Hn3 : RowKit.Hid (b3 < bm ∧ b3 < w'.heap.size ∧ b3 < w'.heap.size + 1) := Lib.hid (by have := HZb2.out.lt; have := hw'.size; have := Hn2.out; omega)
  obtain ⟨V3, gV3⟩ : ∃ z, (w'.alloc (.cells #[.map (some bm)] 76)).alloc (.cells #[.int .i64 x1, .int .i64 x2, .int .i64 x3] 29) = z := ⟨_, rfl⟩
  obtain ⟨bx, gbx⟩ : ∃ z, w'.heap.size + 1 = z := ⟨_, rfl⟩
  obtain ⟨bn, gbn⟩ : ∃ z, w'.heap.size = z := ⟨_, rfl⟩
  rw [gV3] at HM3 HN3 HX3 HB3 HYb3 HZb3 ⊢
  rw [gbx] at HX3 Hn3 ⊢
  rw [gbn] at HN3 Hn3 ⊢
  clear hw' gV3 gbx gbn HM2 HB2 HYb2 HZb2 Hn2
  simp only [Act.put, List.setIfInBounds_toArray, List.set_cons_zero, List.set_cons_succ]
  refine wpT_done (by kernel_rfl) ?_ _
  intro W8 hw8
  have HX8 := Lib.hid (HX3.out.bl hw8)
  have HN8 := Lib.hid (HN3.out.bl hw8)
  have HM8 := Lib.hid (HM3.out.bl hw8)
  have HB8 := Lib.hid (bel_bl HB3.out hw8)
  have HY8 := Lib.hid (HYb3.out.bl hw8)
  have HZ8 := Lib.hid (HZb3.out.bl hw8)
  clear hw8 HX3 HN3 HM3 HB3 HYb3 HZb3
  have hl2 := HY8.out.lt
  have hl3 := HZ8.out.lt
  have hlx := HX8.out.lt
  have hln := HN8.out.lt
  have hlm := HM8.out.lt
  have hn3 := Hn3.out
  have hbs := HB8.out.size
  refine np_ok ?_
  go_wp2
  obtain ⟨bl, gbl⟩ : ∃ z, W8.heap.size = z := ⟨_, rfl⟩
  rw [gbl] at hl2 hl3 hlx hln hlm hbs
  refine (wpIn_wide (n := 0)).1 ?_
  refine wpIn_roundS (gf := 79) (lb := #[.pointer (some ⟨bx, 0, none⟩), .pointer (some ⟨bn, 0, none⟩)]) rfl (enters_of Try.func79 (by kernel_rfl) rfl) (encs := fun y : D2 => #[dV y.1]) (fun _ => rfl) (fun i => i = bx ∨ i = bn ∨ i = bm ∨ i = bl + 2) (by omega)
    (fun r => round_its bx bn bm q (sigM Vs) S (x1, x2, x3) Hx.out (fun h => sigM_key Hs.out _ h) (sigM_some Hs.out) _ _ ⟨.inl rfl, .inr (.inl rfl), .inr (.inr (.inl rfl)), .inr (.inr (.inr (by simp [World.size_alloc, gbl])))⟩ ((HX8.out.al _).al _) ((HN8.out.al _).al _) ((HM8.out.al _).al _) (by have := HK.out _ HKS.out; omega))
    (fun p W => ¬ HasD p (y1, y2, y3) ∧ Whole W b2 29 [.int .i64 y1, .int .i64 y2, .int .i64 y3] ∧ Whole W b3 4 [.bool false] ∧ Below w.heap.size w W)
    (fun p z a' W => ∃ By, bl + 3 ≤ By ∧ By < W.heap.size ∧ Whole W By 29 [.int .i64 z.1.1, .int .i64 z.1.2.1, .int .i64 z.1.2.2] ∧ a' = { tmps := #[.agg #[.slice A n c, .slice B m k], .agg #[.int .i64 x1, .int .i64 x2, .int .i64 x3], .agg #[.int .i64 y1, .int .i64 y2, .int .i64 y3], .pointer (some ⟨b0, 0, none⟩), .pointer (some ⟨b1, 0, none⟩), .pointer (some ⟨b2, 0, none⟩), .pointer (some ⟨b3, 0, none⟩), .pointer (some ⟨By, 0, none⟩), .agg #[.slice A n c, .slice B m k], .map (some bm), .agg #[.int .i64 x1, .int .i64 x2, .int .i64 x3], .func (.func 79) #[] #[.pointer (some ⟨bx, 0, none⟩), .pointer (some ⟨bn, 0, none⟩)], dV z.1, undef, undef, undef], defers := [] } ∧ ¬ HasD p (y1, y2, y3) ∧ Whole W b2 29 [.int .i64 y1, .int .i64 y2, .int .i64 y3] ∧ Whole W b3 4 [.bool false] ∧ Below w.heap.size w W)
    (fun c p W => c = .ret ∧ HasD p (y1, y2, y3) ∧ Whole W b3 4 [.bool true] ∧ Below w.heap.size w W)
    (fun p W W' r h hg hr1 hr2 => by
      rw [gbl] at hr1 hr2
      obtain ⟨e1, e2, e3, e4⟩ := h
      exact ⟨e1, e2.at_ (hg.block b2 e2.lt (fun e => by cases e; omega)), e3.at_ (hg.block b3 e3.lt (fun e => by cases e; omega)), e4.grown hg e4.size (fun k e => by cases e; omega)⟩)
    (fun p z a' W W' r h hg hr1 hr2 => by
      rw [gbl] at hr1 hr2
      obtain ⟨By, d1, d2, d3, d4, e1, e2, e3, e4⟩ := h
      exact ⟨By, d1, Nat.lt_of_lt_of_le d2 hg.size, d3.at_ (hg.block By d2 (fun e => by cases e; omega)), d4, e1, e2.at_ (hg.block b2 e2.lt (fun e => by cases e; omega)), e3.at_ (hg.block b3 e3.lt (fun e => by cases e; omega)), e4.grown hg e4.size (fun k e => by cases e; omega)⟩)
    (fun c p W W' r h hg hr1 hr2 => by
      rw [gbl] at hr1 hr2
      obtain ⟨e1, e2, e3, e4⟩ := h
      exact ⟨e1, e2, e3.at_ (hg.block b3 e3.lt (fun e => by cases e; omega)), e4.grown hg e4.size (fun k e => by cases e; omega)⟩)
    ⟨(fun q => by cases q), HY8.out, HZ8.out, HB8.out⟩ ?assign ?body ?done ?stop
  case assign =>
    rintro l pre ⟨⟨z1, z2, z3⟩, hz⟩ W R ⟨e1, e2, e3, e4⟩ hsz3 hK
    simp only [dV]
    gi_wp2
    exact hK _ _ (KpS.grown (World.grownBy_alloc W _ none) (fun r e => by cases e)) ⟨W.heap.size, by omega, by simp, Whole.new_ _ _ _, rfl, e1, e2.al _, e3.al _, bel_al e4 _⟩
  case body =>
    rintro l pre ⟨⟨z1, z2, z3⟩, hz⟩ a' W ⟨By, hBy, hBl, hY, rfl, e1, e2, e3, e4⟩ hlen hsz3
    have c0 := hY.cell (i := 0) rfl
    have c1 := hY.cell (i := 1) rfl
    have c2 := hY.cell (i := 2) rfl
    have d0 := e2.cell (i := 0) rfl
    have d1 := e2.cell (i := 1) rfl
    have d2 := e2.cell (i := 2) rfl
    have k0 := e3.cell (i := 0) rfl
    have f0 := e3.free 0
    simp only [dV]
    by_cases hzy : (z1, z2, z3) = (y1, y2, y3)
    · have hq : ∀ W, (binOp .eql 29 (.agg #[.int .i64 z1, .int .i64 z2, .int .i64 z3]) (.agg #[.int .i64 y1, .int .i64 y2, .int .i64 y3])).run Try.prog W = .ok (.bool true) W := fun W => by
        have e := eq_dart_run (z1, z2, z3) (y1, y2, y3) W
        rw [decide_eq_true hzy] at e
        exact e
      gi_wp2
      exact ⟨KpS.grown (grownBy_setCell' _ _ _) (fun r e q => by cases e; omega), rfl, (by show _ ∈ (pre ++ _).map _; rw [List.map_append, List.mem_append]; exact .inr (List.mem_singleton.2 (by first | rfl | exact hzy.symm))), e3.set_ 0 _, e4.setCell (p := ⟨b3, 0, none⟩) Lb3.out _⟩
    · have hq : ∀ W, (binOp .eql 29 (.agg #[.int .i64 z1, .int .i64 z2, .int .i64 z3]) (.agg #[.int .i64 y1, .int .i64 y2, .int .i64 y3])).run Try.prog W = .ok (.bool false) W := fun W => by
        have e := eq_dart_run (z1, z2, z3) (y1, y2, y3) W
        rw [decide_eq_false hzy] at e
        exact e
      gi_wp2
      refine ⟨KpS.refl _ _, fun hu => ?_, e2, e3, e4⟩
      replace hu : (y1, y2, y3) ∈ (pre ++ [(⟨(z1, z2, z3), hz⟩ : D2)]).map (·.1) := hu
      rw [List.map_append, List.mem_append] at hu
      rcases hu with hu | hu
      · exact e1 hu
      · exact hzy (List.mem_singleton.1 hu).symm
  case done =>
    rintro ys W hS ⟨e1, e2, e3, e4⟩ hK
    have k0 := e3.cell (i := 0) rfl
    have f0 := e3.free 0
    have hnin : ¬ (y1, y2, y3) ∈ faceL (sigM Vs) S.length (x1, x2, x3) := fun q => e1 (by show _ ∈ ys.map _; rw [hS]; exact q)
    have HNi := Lib.hid hnin
    clear hnin
    rw [gbl] at hK ⊢
    go_wp2
    have hnin := HNi.out
    have hK' := (grownBy_setCell' W b3 (.bool false)).block bl (Array.getElem?_eq_some_iff.1 hK).1 (fun e => by cases e; omega)
    rw [hK] at hK'
    have e5 := (e3.set_ 0 (.bool false)).at_ ((grownBy_putObj' (W.setCell ⟨b3, 0, none⟩ (.bool false)) bl (.deferred none)).block b3 (by simpa using e3.lt) (fun e => by cases e; omega))
    have hc5 := e5.cell (i := 0) rfl
    refine ⟨by simp, .inl ⟨_, _, rfl, run_takeDeferred hK', ?_⟩⟩
    refine ⟨.bool false, ?_, S, HKS.out, by rw [decide_eq_false hnin], (e4.setCell (p := ⟨b3, 0, none⟩) Lb3.out _).grown (grownBy_putObj' _ _ _) (by simpa using e4.size) (fun k e => by cases e; omega)⟩
    simp [results, Try.results28, go_sem, hc5]
  case stop =>
    rintro c p W hS ⟨rfl, he, e3, e4⟩ hK

    rw [gbl] at hK ⊢
    gi_wp2
    have hc5 := (e3.at_ ((grownBy_putObj' W bl (.deferred none)).block b3 e3.lt (fun e => by cases e; omega))).cell (i := 0) rfl
    refine ⟨by simp, .inl ⟨_, _, rfl, run_takeDeferred hK, ?_⟩⟩
    refine ⟨.bool true, ?_, S, HKS.out, by rw [decide_eq_true (hS.subset he)], e4.grown (grownBy_putObj' _ _ _) e4.size (fun k e => by cases e; omega)⟩
    simp [results, Try.results28, go_sem, hc5]
end Go.Proofs.Ytjkbcpikdkidhaa
