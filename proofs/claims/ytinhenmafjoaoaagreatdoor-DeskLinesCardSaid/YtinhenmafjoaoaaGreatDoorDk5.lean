/- A new collab; no steps; the example. -/
import Derived.Test.YtinhenmafjoaoaaGreatDoorDk4
namespace Go.Proofs.YtinhenmafjoaoaaGreatDoor
open Go.RowKit
set_option linter.unusedSimpArgs false
set_option linter.unusedVariables false

theorem wl_store9 {P : Program} {ops : Array Oper} {Q : Exit → Act → World → Prop} {o : Oper} {rest : List Oper} {a : Act} {w w' : World} (hd : o.dst = none) (hw : Region.wanted o (yielded ops a.tmps) = true) (hrun : (execOp a.eval o).run P w = .ok .skip w')
    (h : wpList P ops Q rest a w') : wpList P ops Q (o :: rest) a w := by
  refine wpList_step fun K hK => ?_
  rw [if_pos hw]
  unfold Oper.wp
  rw [hrun, Oper.upon_skip, hd]
  exact hK _ _ h
/-- A client's block. -/
def Cb (W : World) (b : Nat) : Prop := ∃ cs : List Value, cs.length = 17 ∧ Whole W b 125 cs
theorem Cb.c {W : World} {b i : Nat} (h : Cb W b) (hi : i < 17) : ∃ v, W.cell? ⟨b, i, none⟩ = some v := by
  obtain ⟨cs, hl, hw⟩ := h
  exact ⟨_, hw.cell (List.getElem?_eq_getElem (by omega))⟩
theorem Cb.f {W : World} {b : Nat} (h : Cb W b) (i : Nat) : W.frozen? ⟨b, i, none⟩ = false := by
  obtain ⟨cs, hl, hw⟩ := h
  exact hw.free i
theorem Cb.set {W : World} {b : Nat} (h : Cb W b) (i : Nat) (u : Value) : Cb (W.setCell ⟨b, i, none⟩ u) b := by
  obtain ⟨cs, hl, hw⟩ := h
  exact ⟨_, by rw [List.length_set]; exact hl, hw.set_ i u⟩
theorem Cb.sets {W : World} {b : Nat} (h : Cb W b) (o : Nat) (vs : List Value) (ho : o + vs.length ≤ 17) : Cb (W.setCells b o vs) b := by
  obtain ⟨cs, hl, hw⟩ := h
  exact ⟨_, (putR_length cs o vs (by omega)).trans hl, hw.cells_ vs o _ _ (by omega)⟩
theorem Cb.there {W : World} {b : Nat} (h : Cb W b) (o n : Nat) (ho : o + n ≤ 17) : W.there b o n := by
  obtain ⟨cs, hl, hw⟩ := h
  exact hw.there_ o n (by omega)
theorem Cb.bl {W W' : World} {b : Nat} (h : Cb W b) (hb : Below W.heap.size W W') : Cb W' b := by
  obtain ⟨cs, hl, hw⟩ := h
  exact ⟨cs, hl, hw.bl hb⟩
theorem Cb.lt {W : World} {b : Nat} (h : Cb W b) : b < W.heap.size := by
  obtain ⟨cs, hl, hw⟩ := h
  exact hw.lt
theorem kept_b {b : Nat} (w : World) (i : Nat) (u : Value) : Kept (fun k => k = b) w (w.setCell ⟨b, i, none⟩ u) := kept_setCells (S := fun k => k = b) rfl i [u]
set_option maxRecDepth 100000 in
set_option maxHeartbeats 4000000 in
theorem snew_any (w : World) : Calls Tryz.prog 71 #[.int .i64 8] w fun e w' => (∃ g, e = .returned (.pointer (some ⟨g, 0, none⟩))) ∧ Below w.heap.size w w' := by
  have HB := Lib.hid (fun (o : Obj) => below1 w o)
  go_enter Tryz.func71, Tryz.ntmps71
  go_wp2
  go_ret
  exact ⟨⟨_, rfl⟩, HB.out _⟩
set_option maxRecDepth 100000 in
set_option maxHeartbeats 4000000 in
theorem rnew_any (w : World) : Calls Tryz.prog 72 #[.int .i64 64] w fun e w' => (∃ g, e = .returned (.pointer (some ⟨g, 0, none⟩))) ∧ Below w.heap.size w w' := by
  have HB := Lib.hid (fun (o o' : Obj) => bel_al (below1 w o) o')
  have hmm : ∀ t W, (Instr.makeMap t none).run Tryz.prog W = .ok (.map (some W.heap.size)) (W.alloc (.map #[] 0)) := fun _ _ => rfl
  go_enter Tryz.func72, Tryz.ntmps72
  go_wp2
  go_ret
  exact ⟨⟨_, rfl⟩, HB.out _ _⟩
set_option maxRecDepth 100000 in
set_option maxHeartbeats 4000000 in
theorem begin_any (b : Nat) (w : World) (h : Cb w b) :
    Calls Tryz.prog 43 #[.pointer (some ⟨b, 0, none⟩), .int .i64 0, .int .i64 0, .agg #[.slice none 0 0, .slice none 0 0, .slice none 0 0]] w fun e w' => e = .returned (.tuple #[]) ∧ Kept (fun i => i = b) w w' := by
  have Hc := Lib.hid h
  have hlt := h.lt
  clear h
  go_enter Tryz.func43, Tryz.ntmps43
  obtain ⟨W, gW⟩ : ∃ z, w = z := ⟨_, rfl⟩
  rw [gW] at Hc hlt ⊢
  clear gW
  go_upto_region 1 with fail
  have HX : RowKit.Hid (Whole (W.alloc (.cells #[.slice none 0 0, .slice none 0 0, .slice none 0 0] 100)) W.heap.size 100 [.slice none 0 0, .slice none 0 0, .slice none 0 0]) := Lib.hid (Whole.new_ W 100 _)
  have HNe : RowKit.Hid (b ≠ W.heap.size) := Lib.hid (by omega)
  have HB0 := Lib.hid (Hc.out.bl (below1 W (.cells #[.slice none 0 0, .slice none 0 0, .slice none 0 0] 100)))
  have HB0k : RowKit.Hid (Kept (fun i => i = b) W (W.alloc (.cells #[.slice none 0 0, .slice none 0 0, .slice none 0 0] 100))) := Lib.hid (Kept.of_below (below1 W _))
  obtain ⟨W1, gW1⟩ : ∃ z, W.alloc (.cells #[.slice none 0 0, .slice none 0 0, .slice none 0 0] 100) = z := ⟨_, rfl⟩
  rw [gW1] at HX HB0 HB0k ⊢
  clear gW1
  have HB0d := Lib.hid (HB0.out.bl (Below.refl _ W1).drew)
  have HB0dk := Lib.hid (HB0k.out.drew)
  refine wp_region_reg (fun i => i = b) (by kernel_rfl) ?_
  apply wpR_next 0 (some 8)
  · simp only [List.getElem?_toArray, List.getElem?_cons_succ, List.getElem?_cons_zero]; exact rfl
  · rfl
  · kernel_rfl
  · kernel_rfl
  · kernel_rfl
  · exact fun _ _ _ _ h => h
  apply Exists.intro
  apply And.intro
  · apply yr_run; rfl; intro w' hw'; go_simp; (try with_reducible rfl)
  simp only [Act.put, List.setIfInBounds_toArray, List.set_cons_zero, List.set_cons_succ]
  apply wpR_next 1 (some 9)
  · simp only [List.getElem?_toArray, List.getElem?_cons_succ, List.getElem?_cons_zero]; exact rfl
  · rfl
  · kernel_rfl
  · kernel_rfl
  · kernel_rfl
  · exact fun _ _ _ _ h => h
  apply Exists.intro
  apply And.intro
  · apply yr_run; rfl; intro w' hw'; go_simp; (try with_reducible rfl)
  simp only [Act.put, List.setIfInBounds_toArray, List.set_cons_zero, List.set_cons_succ]
  apply wpR_next 2 (some 10)
  · simp only [List.getElem?_toArray, List.getElem?_cons_succ, List.getElem?_cons_zero]; exact rfl
  · rfl
  · kernel_rfl
  · kernel_rfl
  · kernel_rfl
  · exact fun _ _ _ _ h => h
  apply Exists.intro
  apply And.intro
  · apply yr_run; rfl; intro w' hw'; go_simp; (try with_reducible rfl)
  simp only [Act.put, List.setIfInBounds_toArray, List.set_cons_zero, List.set_cons_succ]
  apply wpR_next 3 (some 11)
  · simp only [List.getElem?_toArray, List.getElem?_cons_succ, List.getElem?_cons_zero]; exact rfl
  · rfl
  · kernel_rfl
  · kernel_rfl
  · kernel_rfl
  · exact fun _ _ _ _ h => h
  apply Exists.intro
  apply And.intro
  · apply yr_run; rfl; intro w' hw'; go_simp; (try with_reducible rfl)
  simp only [Act.put, List.setIfInBounds_toArray, List.set_cons_zero, List.set_cons_succ]
  apply wpR_next 4 (some 12)
  · simp only [List.getElem?_toArray, List.getElem?_cons_succ, List.getElem?_cons_zero]; exact rfl
  · rfl
  · kernel_rfl
  · kernel_rfl
  · kernel_rfl
  · exact fun _ _ _ _ h => h
  apply Exists.intro
  apply And.intro
  · apply yr_run; rfl; intro w' hw'; go_simp; (try with_reducible rfl)
  simp only [Act.put, List.setIfInBounds_toArray, List.set_cons_zero, List.set_cons_succ]
  apply wpR_next 5 (some 13)
  · simp only [List.getElem?_toArray, List.getElem?_cons_succ, List.getElem?_cons_zero]; exact rfl
  · rfl
  · kernel_rfl
  · kernel_rfl
  · kernel_rfl
  · exact fun _ _ _ _ h => h
  apply Exists.intro
  apply And.intro
  · exact yr_load (by rfl) 100 (.tmp 7) rfl W.heap.size rfl 100 [.slice none 0 0, .slice none 0 0, .slice none 0 0] _ (fun w' h => h.whole HX.out.dr (fun q => HNe.out q.symm)) Tryz.underlying100 rfl (by kernel_rfl)
  simp only [Act.put, List.setIfInBounds_toArray, List.set_cons_zero, List.set_cons_succ]
  apply wpR_next 6 (some 14)
  · simp only [List.getElem?_toArray, List.getElem?_cons_succ, List.getElem?_cons_zero]; exact rfl
  · rfl
  · kernel_rfl
  · kernel_rfl
  · kernel_rfl
  · exact fun _ _ _ _ h => h
  apply Exists.intro
  apply And.intro
  · apply yr_run; rfl; intro w' hw'; go_simp; (try with_reducible rfl)
  simp only [Act.put, List.setIfInBounds_toArray, List.set_cons_zero, List.set_cons_succ]
  apply wpR_next 7 (some 15)
  · simp only [List.getElem?_toArray, List.getElem?_cons_succ, List.getElem?_cons_zero]; exact rfl
  · rfl
  · kernel_rfl
  · kernel_rfl
  · kernel_rfl
  · exact fun _ _ _ _ h => h
  apply Exists.intro
  apply And.intro
  · apply yr_run; rfl; intro w' hw'; go_simp; (try with_reducible rfl)
  simp only [Act.put, List.setIfInBounds_toArray, List.set_cons_zero, List.set_cons_succ]
  apply wpR_store 8
  · simp only [List.getElem?_toArray, List.getElem?_cons_succ, List.getElem?_cons_zero]; exact rfl
  · rfl
  · kernel_rfl
  · rfl
  intro w' hw'
  obtain ⟨v_, hc_⟩ := (HB0d.out.bl hw').c (i := 3) (by decide)
  have hf_ := (HB0d.out.bl hw').f 3
  refine ⟨w'.setCell ⟨b, 3, none⟩ (.int .i64 0), by (go_simp; first | done | exact rfl), kept_b _ _ _, ?_⟩
  have HB1 := Lib.hid ((HB0d.out.bl hw').set 3 (.int .i64 0))
  have HB1k := Lib.hid ((HB0dk.out.trans (Kept.of_below hw')).trans (kept_b (b := b) w' 3 (.int .i64 0)))
  obtain ⟨VHB1, gV⟩ : ∃ z, w'.setCell ⟨b, 3, none⟩ (.int .i64 0) = z := ⟨_, rfl⟩
  rw [gV] at HB1 HB1k ⊢
  clear gV hw' hc_ hf_ HB0d HB0dk HB0 HB0k
  try simp only [Act.put, List.setIfInBounds_toArray, List.set_cons_zero, List.set_cons_succ]
  apply wpR_next 9 (some 16)
  · simp only [List.getElem?_toArray, List.getElem?_cons_succ, List.getElem?_cons_zero]; exact rfl
  · rfl
  · kernel_rfl
  · kernel_rfl
  · kernel_rfl
  · exact fun _ _ _ _ h => h
  apply Exists.intro
  apply And.intro
  · apply yr_run; rfl; intro w' hw'; go_simp; (try with_reducible rfl)
  simp only [Act.put, List.setIfInBounds_toArray, List.set_cons_zero, List.set_cons_succ]
  apply wpR_next 10 (some 17)
  · simp only [List.getElem?_toArray, List.getElem?_cons_succ, List.getElem?_cons_zero]; exact rfl
  · rfl
  · kernel_rfl
  · kernel_rfl
  · kernel_rfl
  · exact fun _ _ _ _ h => h
  apply Exists.intro
  apply And.intro
  · apply yr_run; rfl; intro w' hw'; go_simp; (try with_reducible rfl)
  simp only [Act.put, List.setIfInBounds_toArray, List.set_cons_zero, List.set_cons_succ]
  apply wpR_store 11
  · simp only [List.getElem?_toArray, List.getElem?_cons_succ, List.getElem?_cons_zero]; exact rfl
  · rfl
  · kernel_rfl
  · rfl
  intro w' hw'
  obtain ⟨v_, hc_⟩ := (HB1.out.bl hw').c (i := 6) (by decide)
  have hf_ := (HB1.out.bl hw').f 6
  refine ⟨w'.setCell ⟨b, 6, none⟩ (.int .i64 0), by (go_simp; first | done | exact rfl), kept_b _ _ _, ?_⟩
  have HB2 := Lib.hid ((HB1.out.bl hw').set 6 (.int .i64 0))
  have HB2k := Lib.hid ((HB1k.out.trans (Kept.of_below hw')).trans (kept_b (b := b) w' 6 (.int .i64 0)))
  obtain ⟨VHB2, gV⟩ : ∃ z, w'.setCell ⟨b, 6, none⟩ (.int .i64 0) = z := ⟨_, rfl⟩
  rw [gV] at HB2 HB2k ⊢
  clear gV hw' hc_ hf_ HB1 HB1k
  try simp only [Act.put, List.setIfInBounds_toArray, List.set_cons_zero, List.set_cons_succ]
  apply wpR_next 12 (some 18)
  · simp only [List.getElem?_toArray, List.getElem?_cons_succ, List.getElem?_cons_zero]; exact rfl
  · rfl
  · kernel_rfl
  · kernel_rfl
  · kernel_rfl
  · exact fun _ _ _ _ h => h
  apply Exists.intro
  apply And.intro
  · apply yr_run; rfl; intro w' hw'; go_simp; (try with_reducible rfl)
  simp only [Act.put, List.setIfInBounds_toArray, List.set_cons_zero, List.set_cons_succ]
  apply wpR_next 13 (some 19)
  · simp only [List.getElem?_toArray, List.getElem?_cons_succ, List.getElem?_cons_zero]; exact rfl
  · rfl
  · kernel_rfl
  · kernel_rfl
  · kernel_rfl
  · exact fun _ _ _ _ h => h
  apply Exists.intro
  apply And.intro
  · apply yr_run; rfl; intro w' hw'; go_simp; (try with_reducible rfl)
  simp only [Act.put, List.setIfInBounds_toArray, List.set_cons_zero, List.set_cons_succ]
  apply wpR_store 14
  · simp only [List.getElem?_toArray, List.getElem?_cons_succ, List.getElem?_cons_zero]; exact rfl
  · rfl
  · kernel_rfl
  · rfl
  intro w' hw'
  refine ⟨w'.setCells b 7 [.slice none 0 0, .slice none 0 0, .slice none 0 0], store_mid_run 100 (.tmp 19) (.tmp 13) rfl b 7 rfl [.slice none 0 0, .slice none 0 0, .slice none 0 0] rfl ((HB2.out.bl hw').there 7 3 (by decide)) (by kernel_rfl) (by simp [Value.oneCell']), kept_setCells (S := fun i => i = b) rfl _ _, ?_⟩
  have HB3 := Lib.hid ((HB2.out.bl hw').sets 7 [.slice none 0 0, .slice none 0 0, .slice none 0 0] (by decide))
  have HB3k := Lib.hid ((HB2k.out.trans (Kept.of_below hw')).trans (kept_setCells (S := fun i => i = b) (w := w') rfl 7 [.slice none 0 0, .slice none 0 0, .slice none 0 0]))
  obtain ⟨VHB3, gV⟩ : ∃ z, w'.setCells b 7 [.slice none 0 0, .slice none 0 0, .slice none 0 0] = z := ⟨_, rfl⟩
  rw [gV] at HB3 HB3k ⊢
  clear gV hw' HB2 HB2k
  try simp only [Act.put, List.setIfInBounds_toArray, List.set_cons_zero, List.set_cons_succ]
  refine wpR_done (by kernel_rfl) ?_ _
  intro w8 hw8
  have HB4 := Lib.hid (HB3.out.bl hw8)
  have HB4k := Lib.hid (HB3k.out.trans (Kept.of_below hw8))
  clear hw8 HB3 HB3k
  go_upto_region 2 with fail
  obtain ⟨v10, c10⟩ := HB4.out.c (i := 10) (by decide)
  obtain ⟨v4, c4⟩ := HB4.out.c (i := 4) (by decide)
  have f10 := HB4.out.f 10
  have f4 := HB4.out.f 4
  go_upto_region 3 with fail
  have HB5 := Lib.hid ((HB4.out.set 10 (.slice none 0 0)).set 4 (.int .i64 0))
  have HB5k := Lib.hid ((HB4k.out.trans (kept_b (b := b) _ 10 (.slice none 0 0))).trans (kept_b (b := b) _ 4 (.int .i64 0)))
  clear c10 c4 f10 f4
  generalize World.setCell (World.setCell w8 _ _) _ _ = V5 at HB5 HB5k ⊢
  clear HB4 HB4k
  refine wp_region_lit ?_
  refine wl_read (v := ?_) (some 26) rfl (by rfl) ?_ ?_
  rotate_left
  · go_simp; (try with_reducible rfl)
  simp only [Act.put, List.setIfInBounds_toArray, List.set_cons_zero, List.set_cons_succ]
  refine wl_read (v := ?_) (some 27) rfl (by rfl) ?_ ?_
  rotate_left
  · go_simp; (try with_reducible rfl)
  simp only [Act.put, List.setIfInBounds_toArray, List.set_cons_zero, List.set_cons_succ]
  refine wl_read (v := ?_) (some 28) rfl (by rfl) ?_ ?_
  rotate_left
  · go_simp; (try with_reducible rfl)
  simp only [Act.put, List.setIfInBounds_toArray, List.set_cons_zero, List.set_cons_succ]
  refine wl_read (v := ?_) (some 29) rfl (by rfl) ?_ ?_
  rotate_left
  · go_simp; (try with_reducible rfl)
  simp only [Act.put, List.setIfInBounds_toArray, List.set_cons_zero, List.set_cons_succ]
  refine wl_read (v := ?_) (some 30) rfl (by rfl) ?_ ?_
  rotate_left
  · go_simp; (try with_reducible rfl)
  simp only [Act.put, List.setIfInBounds_toArray, List.set_cons_zero, List.set_cons_succ]
  refine wl_read (v := ?_) (some 31) rfl (by rfl) ?_ ?_
  rotate_left
  · go_simp; (try with_reducible rfl)
  simp only [Act.put, List.setIfInBounds_toArray, List.set_cons_zero, List.set_cons_succ]
  refine wl_store9 rfl (by rfl) (store_mid_run 123 (.tmp 31) (.tmp 28) rfl b 11 rfl [.int .i64 64, .slice none 0 0] rfl (HB5.out.there 11 2 (by decide)) (by kernel_rfl) (by simp [Value.oneCell'])) ?_
  have HB6 := Lib.hid (HB5.out.sets 11 [.int .i64 64, .slice none 0 0] (by decide))
  have HB6k := Lib.hid (HB5k.out.trans (kept_setCells (S := fun i => i = b) rfl 11 [.int .i64 64, .slice none 0 0]))
  generalize World.setCells _ b 11 [.int .i64 64, .slice none 0 0] = VHB6 at HB6 HB6k ⊢
  clear HB5 HB5k
  refine wl_read (v := ?_) (some 32) rfl (by rfl) ?_ ?_
  rotate_left
  · go_simp; (try with_reducible rfl)
  simp only [Act.put, List.setIfInBounds_toArray, List.set_cons_zero, List.set_cons_succ]
  refine wl_read (v := ?_) (some 33) rfl (by rfl) ?_ ?_
  rotate_left
  · go_simp; (try with_reducible rfl)
  simp only [Act.put, List.setIfInBounds_toArray, List.set_cons_zero, List.set_cons_succ]
  refine wl_store9 rfl (by rfl) (store_mid_run 123 (.tmp 33) (.tmp 29) rfl b 13 rfl [.int .i64 64, .slice none 0 0] rfl (HB6.out.there 13 2 (by decide)) (by kernel_rfl) (by simp [Value.oneCell'])) ?_
  have HB7 := Lib.hid (HB6.out.sets 13 [.int .i64 64, .slice none 0 0] (by decide))
  have HB7k := Lib.hid (HB6k.out.trans (kept_setCells (S := fun i => i = b) rfl 13 [.int .i64 64, .slice none 0 0]))
  generalize World.setCells _ b 13 [.int .i64 64, .slice none 0 0] = VHB7 at HB7 HB7k ⊢
  clear HB6 HB6k
  have HS := Lib.hid snew_any
  have HR := Lib.hid rnew_any
  go_upto_region 4 with fail
  go_wp2_with (first
    | (go_at_call 71
       refine (HS.out _).mono ?_
       rintro e w2 ⟨⟨g2, rfl⟩, hb2⟩
       have HB8 := Lib.hid (HB7.out.bl hb2)
       have HB8k := Lib.hid (HB7k.out.trans (Kept.of_below hb2))
       clear hb2 HB7 HB7k)
    | (go_at_call 72
       refine (HR.out _).mono ?_
       rintro e w3 ⟨⟨g3, rfl⟩, hb3⟩
       have HB9 := Lib.hid (HB8.out.bl hb3)
       have HB9k := Lib.hid (HB8k.out.trans (Kept.of_below hb3))
       obtain ⟨v15, c15⟩ := HB9.out.c (i := 15) (by decide)
       obtain ⟨v16, c16⟩ := HB9.out.c (i := 16) (by decide)
       have f15 := HB9.out.f 15
       have f16 := HB9.out.f 16
       clear hb3 HB8 HB8k))
  go_end0
  exact ⟨rfl, (HB9k.out.trans (kept_b (b := b) _ 15 _)).trans (kept_b (b := b) _ 16 _)⟩
theorem ret_whole {P : Program} {fn : Func} {R : Ending → World → Prop} {a : Act} {w : World} {p : Tmp} {t : TypeId} (h : fn.results = #[.cell p t]) (g : Nat) {t' : TypeId} {cs : List Value} {d : TypeDesc}
    (hp : a.tmps.getD p undef = .pointer (some ⟨g, 0, none⟩)) (hW : Whole w g t' cs) (hu : P.underlying t = some d) (hd : d.isRow = true) (hi : (P.info? t).map (·.size) = some cs.length)
    (hdf : a.defers = []) (hR : R (.returned (.agg cs.toArray)) w) : bodyPost P fn R .ret a w := by
  refine bodyPost_ret (v := .agg cs.toArray) ?_ hdf hR
  have hl := run_loadVar_mid (P := P) w g 0 t cs d (fun j v hv => by
    have := hW.cell hv
    simpa using this) hu hd hi
  have hp2 := hp
  rw [Array.getD_eq_getD_getElem?] at hp2
  simp [results, h, hp2, asAddr, Sem.run_bind, Result.andThen, hl]
set_option maxRecDepth 100000 in
set_option maxHeartbeats 4000000 in
theorem empty_any (w : World) : Calls Tryz.prog 44 #[] w fun e w' => e = .returned (.agg #[.slice none 0 0, .slice none 0 0, .slice none 0 0]) ∧ Below w.heap.size w w' := by
  have HB := Lib.hid (fun (o : Obj) => below1 w o)
  have HW := Lib.hid (Whole.new_ w 100 [.slice none 0 0, .slice none 0 0, .slice none 0 0])
  go_enter Tryz.func44, Tryz.ntmps44
  go_wp2
  exact ret_whole rfl w.heap.size rfl HW.out Tryz.underlying100 rfl (by kernel_rfl) rfl ⟨rfl, HB.out _⟩
set_option maxRecDepth 100000 in
set_option maxHeartbeats 4000000 in
theorem cnew_any (k : Int) (w : World) : Calls Tryz.prog 27 #[.int .i64 k] w fun e w' => (∃ g, e = .returned (.pointer (some ⟨g, 0, none⟩))) ∧ Below w.heap.size w w' := by
  have HE := Lib.hid empty_any
  have HBg := Lib.hid begin_any
  obtain ⟨k1, gk⟩ : ∃ z, min (max k 1) 8 = z := ⟨_, rfl⟩
  go_enter Tryz.func27, Tryz.ntmps27
  go_upto_region 2 with fail
  have HC := Lib.hid (show Cb (w.alloc (.cells #[.int .i64 k1, .int .i64 0, .bool false, .int .i64 0, .int .i64 0, .int .i64 0, .int .i64 0, .slice none 0 0, .slice none 0 0, .slice none 0 0, .slice none 0 0, .int .i64 0, .slice none 0 0, .int .i64 0, .slice none 0 0, .pointer none, .pointer none] 125)) w.heap.size from ⟨[.int .i64 k1, .int .i64 0, .bool false, .int .i64 0, .int .i64 0, .int .i64 0, .int .i64 0, .slice none 0 0, .slice none 0 0, .slice none 0 0, .slice none 0 0, .int .i64 0, .slice none 0 0, .int .i64 0, .slice none 0 0, .pointer none, .pointer none], rfl, Whole.new_ w 125 _⟩)
  have HB := Lib.hid (below1 w (.cells #[.int .i64 k1, .int .i64 0, .bool false, .int .i64 0, .int .i64 0, .int .i64 0, .int .i64 0, .slice none 0 0, .slice none 0 0, .slice none 0 0, .slice none 0 0, .int .i64 0, .slice none 0 0, .int .i64 0, .slice none 0 0, .pointer none, .pointer none] 125))
  obtain ⟨W1, gW1⟩ : ∃ z, w.alloc (.cells #[.int .i64 k1, .int .i64 0, .bool false, .int .i64 0, .int .i64 0, .int .i64 0, .int .i64 0, .slice none 0 0, .slice none 0 0, .slice none 0 0, .slice none 0 0, .int .i64 0, .slice none 0 0, .int .i64 0, .slice none 0 0, .pointer none, .pointer none] 125) = z := ⟨_, rfl⟩
  obtain ⟨b, gb⟩ : ∃ z, w.heap.size = z := ⟨_, rfl⟩
  have Hb := Lib.hid gb
  rw [gW1] at HC HB ⊢
  rw [gb] at HC ⊢
  clear gW1 gb gk
  go_wp2_with (first
    | (go_at_call 44
       refine (HE.out _).mono ?_
       rintro e w2 ⟨rfl, hb2⟩
       have HC2 := Lib.hid (HC.out.bl hb2)
       have HB2 := Lib.hid (bel_bl HB.out hb2)
       clear hb2 HE HC HB)
    | (go_at_call 43
       refine (HBg.out b _ HC2.out).mono ?_
       rintro e w3 ⟨rfl, hk3⟩
       have HB3 := Lib.hid (HB2.out.trans (hk3.below (B := w.heap.size) HB2.out.size (fun i hi q => by have := Hb.out; have : i = b := q; omega)))
       clear hk3 HC2 HB2 HBg))
  go_ret
  exact ⟨⟨_, rfl⟩, HB3.out⟩
set_option maxRecDepth 100000 in
set_option maxHeartbeats 4000000 in
theorem svnew_any (w : World) : Calls Tryz.prog 25 #[] w fun e w' => (∃ g, e = .returned (.pointer (some ⟨g, 0, none⟩))) ∧ Below w.heap.size w w' := by
  have HE := Lib.hid empty_any
  go_enter Tryz.func25, Tryz.ntmps25
  go_wp2_with (first
    | (go_at_call 44
       refine (HE.out _).mono ?_
       rintro e w2 ⟨rfl, hb2⟩
       have HB2 := Lib.hid hb2
       clear hb2 HE)
    | go_in)
  go_ret
  exact ⟨⟨_, rfl⟩, bel_al (bel_al HB2.out _) _⟩
set_option maxRecDepth 100000 in
set_option maxHeartbeats 4000000 in
theorem nnew_any (w : World) : Calls Tryz.prog 26 #[] w fun e w' => (∃ g, e = .returned (.pointer (some ⟨g, 0, none⟩))) ∧ Below w.heap.size w w' := by
  have HB := Lib.hid (fun (o o' : Obj) => bel_al (below1 w o) o')
  go_enter Tryz.func26, Tryz.ntmps26
  go_wp2
  go_ret
  exact ⟨⟨_, rfl⟩, HB.out _ _⟩
theorem Ow.low_ne {w W : World} {B size n g : Nat} {e : TypeId} {v : Value} {xs : List Value} (h : Ow w B e size v n xs W) (hg : g < B) : some g ≠ v.ownBlock := fun e => by
  have := (h.own.lt g e.symm).1
  omega
theorem Ow.set_far {w W : World} {B size n g i : Nat} {e : TypeId} {v : Value} {xs : List Value} (h : Ow w B e size v n xs W) (hne : some g ≠ v.ownBlock) (hg : w.heap.size ≤ g) (u : Value) : Ow w B e size v n xs (W.setCell ⟨g, i, none⟩ u) :=
  ⟨h.own.kept (row := some g) ⟨rfl, rfl, rfl, by simp [World.setCell], fun k _ hk => Below.heap_setCell _ _ _ _ (by
    rintro rfl
    exact hk rfl)⟩ (by first | exact hne | exact hne.symm | exact .inr hne | exact .inr hne.symm), h.below.setCell hg u, h.lo, by simpa [World.setCell] using h.hi⟩
def p1 (g : Nat) : List Value := [.pointer (some ⟨g, 0, none⟩)]
theorem p1_one (g : Nat) : ∀ u ∈ p1 g, u.oneCell' = true := by simp [p1, Value.oneCell']
theorem info_pc : (Tryz.prog.info? 75).map (fun i => (i.zero, i.size, i.bytes)) = some (some (.pointer none), 1, 8) := by kernel_rfl
set_option maxRecDepth 100000 in
set_option maxHeartbeats 4000000 in
theorem conew_any (w : World) : Calls Tryz.prog 17 #[.int .i64 2] w fun e w' => (∃ g, e = .returned (.pointer (some ⟨g, 0, none⟩))) ∧ Below w.heap.size w w' := by
  obtain ⟨iv, hiv, hzv0, hzv1, hzv2⟩ := info_parts_ info_pc
  have HS := Lib.hid svnew_any
  have HN := Lib.hid nnew_any
  have HCn := Lib.hid cnew_any
  go_enter Tryz.func17, Tryz.ntmps17
  go_upto_region 3 with (first
    | (go_at_call 25
       refine (HS.out _).mono ?_
       rintro e w2 ⟨⟨gs, rfl⟩, hb2⟩
       have HB2 := Lib.hid hb2
       clear hb2 HS)
    | (go_at_call 26
       refine (HN.out _).mono ?_
       rintro e w3 ⟨⟨gn, rfl⟩, hb3⟩
       have HB3 := Lib.hid (bel_bl HB2.out hb3)
       clear hb3 HN HB2))
  have HB4 := Lib.hid (bel_al HB3.out (.cells #[.pointer (some ⟨gs, 0, none⟩), .slice none 0 0, .pointer (some ⟨gn, 0, none⟩)] 74))
  have HX4 := Lib.hid (Whole.new_ w3 74 [.pointer (some ⟨gs, 0, none⟩), .slice none 0 0, .pointer (some ⟨gn, 0, none⟩)])
  have HO4 : RowKit.Hid (Ow w (w3.heap.size + 1) 75 1 (.slice none 0 0) 0 (rowsV p1 []) (w3.alloc (.cells #[.pointer (some ⟨gs, 0, none⟩), .slice none 0 0, .pointer (some ⟨gn, 0, none⟩)] 74))) := Lib.hid ⟨World.ownsRow_nil _ _ _ _, HB4.out, Nat.le_trans HB3.out.size (Nat.le_succ _), by simp⟩
  have L3 : RowKit.Hid (w3.heap.size < w3.heap.size + 1) := Lib.hid (Nat.lt_succ_self _)
  have Lb : RowKit.Hid (w.heap.size ≤ w3.heap.size) := Lib.hid HB3.out.size
  obtain ⟨lo, glo⟩ : ∃ z, w3.heap.size + 1 = z := ⟨_, rfl⟩
  obtain ⟨W4, gW4⟩ : ∃ z, w3.alloc (.cells #[.pointer (some ⟨gs, 0, none⟩), .slice none 0 0, .pointer (some ⟨gn, 0, none⟩)] 74) = z := ⟨_, rfl⟩
  obtain ⟨b, gb⟩ : ∃ z, w3.heap.size = z := ⟨_, rfl⟩
  rw [gW4] at HX4 HO4 ⊢
  rw [glo] at HO4 L3
  rw [gb] at HX4 L3 Lb ⊢
  clear gW4 glo gb HB4 HB3
  obtain ⟨n, gn2⟩ : ∃ n : Nat, (n : Int) = min (max 2 1) 8 := ⟨2, by decide⟩
  have hn : n ≤ 10 := by omega
  rw [← gn2]
  go_loopw [12] (fun vi wr => ∃ (j : Nat) (A2 : Option Addr) (c2 : Nat) (T : List Nat), j ≤ n ∧ vi = .int .i64 (j : Int) ∧ RowKit.Hid (Whole wr b 74 [.pointer (some ⟨gs, 0, none⟩), .slice A2 j c2, .pointer (some ⟨gn, 0, none⟩)]) ∧ RowKit.Hid (Ow w lo 75 1 (.slice A2 j c2) j (rowsV p1 T) wr)) (fun vi _ => n - (intOf vi).toNat)
  case atStart => exact ⟨0, none, 0, [], Nat.zero_le _, rfl, HX4, HO4⟩
  case round =>
    clear HX4 HO4 gn2
    obtain ⟨j, A2, c2, T, hj, rfl, HX, HO⟩ := hrel
    obtain ⟨wo, gwo⟩ : ∃ z, wr = z := ⟨_, rfl⟩
    rw [gwo] at HX HO ⊢
    clear gwo
    by_cases hjn : j < n
    · have hji : (j : Int) < (n : Int) := by omega
      go_upto_region 5 with fail
      have ld1 : ∀ w', Kept (From_ lo) wo.drew w' → w'.cell? ⟨b, 1, none⟩ = some (.slice A2 j c2) := fun w' hk => hk.from_cell L3.out (HX.out.dr.cell (i := 1) rfl)
      refine wp_region_tail (From_ lo) [12] (by kernel_rfl) ?_
      apply wpT_next 0 (some 15) (by kernel_rfl)
      · simp only [List.getElem?_toArray, List.getElem?_cons_succ, List.getElem?_cons_zero]; exact rfl
      · rfl
      · kernel_rfl
      · kernel_rfl
      · kernel_rfl
      · exact fun _ _ _ _ h => h
      apply Exists.intro
      apply And.intro
      · apply yr_run; rfl; intro w' hw'; go_simp; (try with_reducible rfl)
      simp only [Act.put, List.setIfInBounds_toArray, List.set_cons_zero, List.set_cons_succ]
      apply wpT_next 1 (some 16) (by kernel_rfl)
      · simp only [List.getElem?_toArray, List.getElem?_cons_succ, List.getElem?_cons_zero]; exact rfl
      · rfl
      · kernel_rfl
      · kernel_rfl
      · kernel_rfl
      · exact fun _ _ _ _ h => h
      apply Exists.intro
      apply And.intro
      · apply yr_run; rfl; intro w' hw'; go_simp; (try with_reducible rfl)
      simp only [Act.put, List.setIfInBounds_toArray, List.set_cons_zero, List.set_cons_succ]
      apply wpT_next 2 (some 17) (by kernel_rfl)
      · simp only [List.getElem?_toArray, List.getElem?_cons_succ, List.getElem?_cons_zero]; exact rfl
      · rfl
      · kernel_rfl
      · kernel_rfl
      · kernel_rfl
      · exact fun _ _ _ _ h => h
      apply Exists.intro
      apply And.intro
      · apply yr_run; rfl; intro w' hw'; go_simp; (try with_reducible rfl)
      simp only [Act.put, List.setIfInBounds_toArray, List.set_cons_zero, List.set_cons_succ]
      apply wpT_next 3 (some 18) (by kernel_rfl)
      · simp only [List.getElem?_toArray, List.getElem?_cons_succ, List.getElem?_cons_zero]; exact rfl
      · rfl
      · kernel_rfl
      · kernel_rfl
      · kernel_rfl
      · exact fun _ _ _ _ h => h
      apply Exists.intro
      apply And.intro
      · apply yr_run; rfl; intro w' hw'; go_simp; (try with_reducible rfl)
      simp only [Act.put, List.setIfInBounds_toArray, List.set_cons_zero, List.set_cons_succ]
      apply wpT_next 4 (some 19) (by kernel_rfl)
      · simp only [List.getElem?_toArray, List.getElem?_cons_succ, List.getElem?_cons_zero]; exact rfl
      · rfl
      · kernel_rfl
      · kernel_rfl
      · kernel_rfl
      · exact fun _ _ _ _ h => h
      apply Exists.intro
      apply And.intro
      · apply yr_run; rfl; intro w' hw'; go_simp; (try with_reducible rfl)
      simp only [Act.put, List.setIfInBounds_toArray, List.set_cons_zero, List.set_cons_succ]
      apply wpT_next 5 (some 20) (by kernel_rfl)
      · simp only [List.getElem?_toArray, List.getElem?_cons_succ, List.getElem?_cons_zero]; exact rfl
      · rfl
      · kernel_rfl
      · kernel_rfl
      · kernel_rfl
      · exact fun _ _ _ _ h => h
      apply Exists.intro
      apply And.intro
      · apply yr_run; rfl; intro w' hw'; go_simp; (try with_reducible rfl)
      simp only [Act.put, List.setIfInBounds_toArray, List.set_cons_zero, List.set_cons_succ]
      apply wpT_next 6 (some 21) (by kernel_rfl)
      · simp only [List.getElem?_toArray, List.getElem?_cons_succ, List.getElem?_cons_zero]; exact rfl
      · rfl
      · kernel_rfl
      · kernel_rfl
      · kernel_rfl
      · exact fun _ _ _ _ h => h
      apply Exists.intro
      apply And.intro
      · apply yr_run; rfl; intro w' hw'; go_simp; (try with_reducible rfl)
      simp only [Act.put, List.setIfInBounds_toArray, List.set_cons_zero, List.set_cons_succ]
      apply wpT_call 7 (some 22)
      · simp only [List.getElem?_toArray, List.getElem?_cons_succ, List.getElem?_cons_zero]; exact rfl
      · rfl
      · kernel_rfl
      · rfl
      · intro w'; go_simp; first | done | exact ⟨rfl, rfl⟩ | with_reducible rfl
      intro w' hw'
      refine (HCn.out _ w').mono ?_
      rintro e w9 ⟨⟨g9, rfl⟩, hb9⟩
      refine ⟨_, rfl, Kept.of_below hb9, ?_⟩
      have HX9 := Lib.hid (Ext.trans hw' hb9)
      clear hw' hb9
      simp only [Act.put, List.setIfInBounds_toArray, List.set_cons_zero, List.set_cons_succ]
      apply wpT_run 8 (some 23)
      · simp only [List.getElem?_toArray, List.getElem?_cons_succ, List.getElem?_cons_zero]; exact rfl
      · rfl
      · kernel_rfl
      · rfl
      intro w' hw'
      refine ⟨.slice (some ⟨w'.heap.size, 0, none⟩) 1 1, w'.alloc (.cells #[.pointer (some ⟨g9, 0, none⟩)] 75), exec_buildSlice 72 75 1 #[(0, .tmp 22)] (by rfl) Tryz.underlying72 _ (by kernel_rfl), Kept.of_below (below1 _ _), ?_⟩
      have HXd := Lib.hid (Ext.trans (Ext.trans HX9.out hw') (below1 w' (.cells #[.pointer (some ⟨g9, 0, none⟩)] 75)))
      have HLr : RowKit.Hid (RdS (w'.alloc (.cells #[.pointer (some ⟨g9, 0, none⟩)] 75)) (w'.alloc (.cells #[.pointer (some ⟨g9, 0, none⟩)] 75)).heap.size 1 (some ⟨w'.heap.size, 0, none⟩) 1 1 (p1 g9)) := Lib.hid (RdS.of_whole (Whole.new_ _ _ _) rfl)
      obtain ⟨V3, gV3⟩ : ∃ z, w'.alloc (.cells #[.pointer (some ⟨g9, 0, none⟩)] 75) = z := ⟨_, rfl⟩
      obtain ⟨g3, gg3⟩ : ∃ z, w'.heap.size = z := ⟨_, rfl⟩
      rw [gV3] at HXd HLr ⊢
      rw [gg3] at HLr ⊢
      clear hw' gV3 gg3 HX9
      simp only [Act.put, List.setIfInBounds_toArray, List.set_cons_zero, List.set_cons_succ]
      apply wpT_run 9 (some 24)
      · simp only [List.getElem?_toArray, List.getElem?_cons_succ, List.getElem?_cons_zero]; exact rfl
      · rfl
      · kernel_rfl
      · rfl
      intro w' hw'
      have hx := Ext.trans (Ext.trans (Below.refl _ wo).drew HXd.out) hw'
      obtain ⟨v8, w'', hrun, ho, hb8⟩ := Ow.app (P := Tryz.prog) 72 72 75 iv _ 1 8 lo Tryz.underlying72 hiv hzv0 hzv1 hzv2 rfl (by decide) _ _ _ (HO.out.up hx) _ _ 1 1 _ (HLr.out.bl hw') (p1_one g9) (by unfold maxLen; omega) (by omega)
      rw [show rowsV p1 T ++ p1 g9 = rowsV p1 (T ++ [g9]) by rw [rowsV_app]; simp [rowsV]] at ho
      obtain ⟨A3, c3, rfl, -⟩ := ho.rds
      refine ⟨_, w'', exec_append (by rfl) (by rfl) (by rfl) hrun, Kept.of_from hb8, ?_⟩
      have HO3 := Lib.hid ho
      have HX3 := Lib.hid ((HX.out.bl hx).at_ (hb8.block _ L3.out))
      obtain ⟨V4, gV4⟩ : ∃ z, w'' = z := ⟨_, rfl⟩
      rw [gV4] at HO3 HX3 ⊢
      clear hw' hx hrun ho hb8 gV4 HXd HLr
      simp only [Act.put, List.setIfInBounds_toArray, List.set_cons_zero, List.set_cons_succ]
      apply wpT_run 10 (some 25)
      · simp only [List.getElem?_toArray, List.getElem?_cons_succ, List.getElem?_cons_zero]; exact rfl
      · rfl
      · kernel_rfl
      · rfl
      intro w' hw'
      apply Exists.intro
      apply Exists.intro
      apply And.intro
      · go_simp; first | done | exact ⟨rfl, rfl⟩ | exact rfl
      apply And.intro
      · exact Kept.refl _ _
      have hpd10 := hw'
      clear hw'
      simp only [Act.put, List.setIfInBounds_toArray, List.set_cons_zero, List.set_cons_succ]
      apply wpT_next 11 (some 26) (by kernel_rfl)
      · simp only [List.getElem?_toArray, List.getElem?_cons_succ, List.getElem?_cons_zero]; exact rfl
      · rfl
      · kernel_rfl
      · kernel_rfl
      · kernel_rfl
      · exact fun _ _ _ _ h => h
      apply Exists.intro
      apply And.intro
      · apply yr_run; rfl; intro w' hw'; go_simp; (try with_reducible rfl)
      simp only [Act.put, List.setIfInBounds_toArray, List.set_cons_zero, List.set_cons_succ]
      apply wpT_last 12
      · simp only [List.getElem?_toArray, List.getElem?_cons_succ, List.getElem?_cons_zero]; exact rfl
      · rfl
      · kernel_rfl
      · rfl
      · decide
      intro w' hw'
      replace hw' := Ext.trans hpd10 hw'
      clear hpd10
      have hc1 := (HX3.out.bl hw').cell (i := 1) rfl
      have hf1 := (HX3.out.bl hw').free 1
      refine ⟨w'.setCell ⟨b, 1, none⟩ (.slice A3 (j + 1) c3), ?_, ?_⟩
      · go_simp; first | done | exact rfl
      have HO4 := Lib.hid ((HO3.out.up hw').set_far ((HO3.out.up hw').low_ne L3.out) Lb.out (.slice A3 (j + 1) c3) (i := 1))
      have HX4 := Lib.hid ((HX3.out.bl hw').set_ 1 (.slice A3 (j + 1) c3))
      obtain ⟨V5, gV5⟩ : ∃ z, w'.setCell ⟨b, 1, none⟩ (.slice A3 (j + 1) c3) = z := ⟨_, rfl⟩
      rw [gV5] at HO4 HX4 ⊢
      clear hw' hc1 hf1 gV5 HO3 HX3
      try simp only [Act.put, List.setIfInBounds_toArray, List.set_cons_zero, List.set_cons_succ]
      refine wpT_done (by kernel_rfl) ?_ _
      intro w8 hw8
      have HO8 := Lib.hid (HO4.out.up hw8)
      have HX8 := Lib.hid (HX4.out.bl hw8)
      clear hw8 HO HX HO4 HX4 ld1
      go_wp2
      go_roundw
      case rel => exact ⟨j + 1, A3, c3, T ++ [g9], by omega, by go_num, HX8, HO8⟩
      case measure => simp [intOf]; omega
    · obtain rfl : n = j := by omega
      have HBe := Lib.hid HO.out.below
      clear HO HX
      go_wp2
      go_ret
      exact ⟨⟨_, rfl⟩, HBe.out⟩
set_option maxRecDepth 100000 in
set_option maxHeartbeats 4000000 in
theorem run0_any (g : Nat) (w : World) : Calls Tryz.prog 16 #[.pointer (some ⟨g, 0, none⟩), .slice none 0 0] w fun e w' => e = .returned (.slice none 0 0) ∧ Below w.heap.size w w' := by
  have HB := Lib.hid (Below.refl w.heap.size w)
  go_enter Tryz.func16, Tryz.ntmps16
  go_upto_region 3 with fail
  go_loopw [5, 10] (fun vs vi wr => vs = .slice none 0 0 ∧ vi = .int .i64 0 ∧ RowKit.Hid (Below w.heap.size w wr)) (fun _ _ _ => 0)
  case atStart => exact ⟨rfl, rfl, HB⟩
  case round =>
    clear HB
    obtain ⟨rfl, rfl, HB⟩ := hrel
    go_wp2
    go_ret
    exact ⟨rfl, HB.out⟩
set_option maxRecDepth 100000 in
set_option maxHeartbeats 4000000 in
theorem play0_any (t : ByteArray) (ht : t = { data := #[] }) (w : World) (hT : Tb w) : Calls Tryz.prog 8 #[.int .i64 2, .string t] w fun e w' => e = .returned (.tuple #[.string { data := #[] }, .int .i64 0, .int .i64 0]) ∧ Below w.heap.size w w' := by
  have HP := Lib.hid (parse0_any t ht)
  have HN := Lib.hid conew_any
  have HR := Lib.hid run0_any
  have HS := Lib.hid (fun (W : World) (h : Tb W) => show_any none 0 0 [] W (rds_nil W _ 4) (fun _ q => by cases q) (by decide) h)
  have HT := Lib.hid hT
  clear ht hT
  go_enter Tryz.func8, Tryz.ntmps8
  go_wp2_with (first
    | (go_at_call 15
       refine (HP.out _).mono ?_
       rintro e w2 ⟨rfl, hb2⟩
       have HB2 := Lib.hid hb2
       clear hb2 HP)
    | (go_at_call 17
       refine (HN.out _).mono ?_
       rintro e w3 ⟨⟨g3, rfl⟩, hb3⟩
       have HB3 := Lib.hid (bel_bl HB2.out hb3)
       clear hb3 HN HB2)
    | (go_at_call 16
       refine (HR.out _ _).mono ?_
       rintro e w4 ⟨rfl, hb4⟩
       have HB4 := Lib.hid (bel_bl HB3.out hb4)
       clear hb4 HR HB3)
    | (go_at_call 6
       refine (HS.out _ (HT.out.bl HB4.out)).mono ?_
       rintro e w5 ⟨rfl, hb5⟩
       have HB5 := Lib.hid (bel_bl HB4.out hb5)
       clear hb5 HS HB4))
  exact bodyPost_ret (v := .tuple #[.string { data := #[] }, .int .i64 0, .int .i64 0]) (by simp [results, Tryz.results8, go_sem]; rfl) rfl ⟨rfl, HB5.out⟩
set_option maxRecDepth 100000 in
set_option maxHeartbeats 4000000 in
theorem shown24_any (w : World) (hT : Tb w) : Calls Tryz.prog 5 #[] w fun e w' => e = .returned (.bool true) ∧ Below w.heap.size w w' := by
  have HP := Lib.hid (fun (W : World) (h : Tb W) => play0_any { data := #[] } rfl W h)
  have HT := Lib.hid hT
  have HS : RowKit.Hid (∀ W, Tb W → Calls Tryz.prog 6 #[.slice (some ⟨W.heap.size, 0, none⟩) 1 1] (W.alloc (.cells #[.int .i64 0, .int .i64 2, .int .i64 0, .slice none 0 0] 27)) fun e w' => e = .returned (.string { data := #[48, 32, 50, 32, 48, 10] }) ∧ Below W.heap.size W w') := Lib.hid (fun W h => by
    refine (show_any (some ⟨W.heap.size, 0, none⟩) 1 1 [⟨0, 2, 0, none, 0, 0, []⟩] (W.alloc (.cells #[.int .i64 0, .int .i64 2, .int .i64 0, .slice none 0 0] 27)) (RdS.of_whole (Whole.new_ W 27 [.int .i64 0, .int .i64 2, .int .i64 0, .slice none 0 0]) rfl) (fun x q => ?_) (by decide) (h.bl (below1 W _))).mono ?_
    · rw [List.mem_singleton] at q
      subst q
      exact ⟨rds_nil _ _ 1, (fun _ q => by cases q), ⟨by decide, by decide⟩, ⟨by decide, by decide⟩, ⟨by decide, by decide⟩, by decide⟩
    · rintro e w' ⟨rfl, hb⟩
      exact ⟨by rw [show bS (showB [⟨0, 2, 0, none, 0, 0, []⟩]) = { data := #[48, 32, 50, 32, 48, 10] } by kernel_rfl], (below1 W _).trans (hb.mono (by simp))⟩)
  clear hT
  go_enter Tryz.func5, Tryz.ntmps5
  go_wp2_with (first
    | (go_at_call 8
       refine (HP.out _ HT.out).mono ?_
       rintro e w2 ⟨rfl, hb2⟩
       have HB2 := Lib.hid hb2
       clear hb2 HP)
    | (go_at_call 6
       refine (HS.out _ (HT.out.bl HB2.out)).mono ?_
       rintro e w3 ⟨rfl, hb3⟩
       have HB3 := Lib.hid (bel_bl HB2.out hb3)
       clear hb3 HS HB2))
  go_ret
  exact ⟨rfl, HB3.out⟩
end Go.Proofs.YtinhenmafjoaoaaGreatDoor
