/- Several texts in one. -/
import Derived.Test.YtkhklhipiiehbaaASC
import Derived.Shelf.Spec.SlicesInsertGrow

/- slices.Insert over darts that are gone: where there is room. -/
namespace Go.Proofs.Ytkhklhipiiehbaa
open Go.RowKit
set_option linter.unusedSimpArgs false
set_option linter.unusedVariables false

theorem ins_put (rows junk new : List Value) (i n : Nat) (hr : rows.length = n * 6) (hi : i < n) (hj : 6 ≤ junk.length) (hn : new.length = 6) :
    putR (putR (rows ++ junk) ((i + 1) * 6) (rows.drop (i * 6))) (i * 6) new = (rows.take (i * 6) ++ (new ++ rows.drop (i * 6))) ++ junk.drop 6 := by
  obtain ⟨P, hP⟩ : ∃ P, rows.take (i * 6) = P := ⟨_, rfl⟩
  obtain ⟨S, hS⟩ : ∃ S, rows.drop (i * 6) = S := ⟨_, rfl⟩
  have hPS : rows = P ++ S := by rw [← hP, ← hS, List.take_append_drop]
  have hPl : P.length = i * 6 := by rw [← hP, List.length_take]; omega
  have hSl : S.length = (n - i) * 6 := by rw [← hS, List.length_drop]; omega
  rw [hP, hS, hPS]
  have e1 : putR (P ++ S ++ junk) ((i + 1) * 6) S = P ++ ((S ++ junk).take 6 ++ (S ++ junk.drop 6)) := by
    unfold putR
    rw [List.append_assoc P S junk, List.take_append, List.drop_append, hPl]
    rw [List.take_of_length_le (by omega), List.drop_of_length_le (by omega), List.nil_append, List.append_assoc]
    rw [show (i + 1) * 6 - i * 6 = 6 by omega]
    congr 2
    rw [List.drop_append, List.drop_of_length_le (by omega), List.nil_append]
    rw [show (i + 1) * 6 + S.length - i * 6 - S.length = 6 by omega]
  rw [e1]
  unfold putR
  have hl6 : ((S ++ junk).take 6).length = 6 := by rw [List.length_take, List.length_append]; omega
  rw [List.take_append, List.drop_append, hPl, hn, Nat.sub_self, List.take_zero, List.append_nil, List.take_of_length_le (by omega), List.drop_of_length_le (by omega), List.nil_append]
  rw [show i * 6 + 6 - i * 6 = 6 by omega, List.drop_append, hl6, List.drop_of_length_le (by omega), List.nil_append, Nat.sub_self, List.drop_zero]
  simp [List.append_assoc]
theorem shape_whole {W : World} {g : Nat} {t : TypeId} {cs : List Value} (h : Whole W g t cs) : W.shape? g = some (t, cs.length) := by
  have h2 : W.heap[g]? = some (.cells cs.toArray t) := h
  simp [World.shape?, h2]
theorem some_whole {W : World} {g : Nat} {t : TypeId} {cs : List Value} (h : Whole W g t cs) {j : Nat} (hj : j < cs.length) : (W.cell? ⟨g, j, none⟩).isSome = true := by
  rw [h.cell (i := j) (List.getElem?_eq_getElem hj)]
  rfl
theorem gnC_mul {G : List Gn} (i : Nat) : (rowsV gnC G).take (i * 6) = rowsV gnC (G.take i) ∧ (rowsV gnC G).drop (i * 6) = rowsV gnC (G.drop i) := ⟨(rowsV_take gnC gnC_len G i).symm, (rowsV_drop gnC gnC_len G i).symm⟩
set_option maxRecDepth 100000 in
set_option maxHeartbeats 4000000 in
theorem insert_room {w W : World} {B : Nat} {A : Option Addr} {n c vb i : Nat} {G : List Gn} (x : Gn) (hO : Ow w B 36 6 (.slice A n c) n (rowsV gnC G) W) (hx : Whole W vb 36 (gnC x)) (hne : some vb ≠ (Value.slice A n c).ownBlock) (hn : n ≤ 1000) (hi : i < n) (hroom : n + 1 ≤ c) :
    Calls Try.prog 26 #[.slice A n c, .int .i64 (i : Int), .slice (some ⟨vb, 0, none⟩) 1 1] W fun e w' => ∃ A' c', e = .returned (.slice A' (n + 1) c') ∧ Ow w B 36 6 (.slice A' (n + 1) c') (n + 1) (rowsV gnC (G.take i ++ x :: G.drop i)) w' := by
  obtain ⟨iG, hiG, z0iG, z1iG, z2iG⟩ := info_partsD info_gone
  obtain ⟨b, junk, rfl, hlo, hW, hcl, hnc, hcm, hxl⟩ := own_place hO.own (by omega)
  have hvb : vb ≠ b := fun e => hne (by rw [e]; rfl)
  have hjl : (c - n) * 6 = junk.length := by rw [List.length_append, hxl] at hcl; rw [Nat.sub_mul]; omega
  have hj6 : 6 ≤ junk.length := by rw [← hjl]; omega
  unfold maxLen at hcm
  have hal : (rowsV gnC G ++ junk).length = c * 6 := hcl
  have hdl : (n - i) * 6 = ((rowsV gnC G).drop (i * 6)).length := by rw [List.length_drop, hxl, ← Nat.sub_mul]
  have hsz : (Try.prog.info? 36).map (·.size) = some 6 := by rw [hiG]; simp [z1iG]
  have hso : ∀ w, (Go.sizeOf 36).run Try.prog w = .ok 6 w := fun w => by simp [sizeOf, typeInfo, hiG, z1iG]
  have hov : ∀ lb cb, (callFunc 32 #[.slice (some ⟨vb, 0, none⟩) 1 1, .slice (some ⟨b, (i + 1) * 6, none⟩) lb cb]).run Try.prog W = .ok (.value (.bool false)) W := fun lb cb => by
    rw [run_callFunc_extern Try.func32 (by kernel_rfl) (by kernel_rfl) (by kernel_rfl) (e := Extern.SlicesOverlaps.overlaps #[26, 26] #[4]) (by kernel_rfl),
      Lib.run_overlaps_apart W 26 4 36 Try.underlying26 6 hso ⟨vb, 0, none⟩ ⟨b, (i + 1) * 6, none⟩ 1 1 lb cb hvb 36 36 _ _ (shape_whole hx) (shape_whole hW) (by rw [hcl]; omega) (hx.free 0) (hx.free _)]
    rfl
  have h1c : ∀ v ∈ (rowsV gnC G).drop (i * 6), v.oneCell' = true := fun v hv => rowsV_one11 gnC gnC_one G v (List.mem_of_mem_drop hv)
  have hcp1 : ∀ ty dc sc, (Builtin.copy_ #[26, 26] ty #[.slice (some ⟨b, (i + 1) * 6, none⟩) (n - i) dc, .slice (some ⟨b, i * 6, none⟩) (n + 1 - i) sc]).run Try.prog W.drew = .ok (goInt (n - i : Nat)) (W.drew.setCells b ((i + 1) * 6) ((rowsV gnC G).drop (i * 6))) := fun ty dc sc =>
    run_copy_sz W.drew _ _ ty 36 6 b ((i + 1) * 6) (n - i) dc ⟨b, i * 6, none⟩ (n + 1 - i) sc (n - i) _ Try.underlying26 hsz (by simp only [Nat.min_def]; split <;> omega) hdl
      (fun j v hj => by
        rw [Addr.add_lit]
        rw [List.getElem?_drop] at hj
        exact hW.dr.cell (i := i * 6 + j) (by rw [List.getElem?_append_left (by have := (List.getElem?_eq_some_iff.1 hj).1; omega)]; exact hj))
      (fun j hj => some_whole hW.dr (by rw [← hdl] at hj; rw [hal]; omega)) (fun j hj => hW.dr.free _) h1c
  have hW1 := hW.dr.cells_ ((rowsV gnC G).drop (i * 6)) ((i + 1) * 6) W.drew _ (by rw [← hdl, hal]; omega)
  obtain ⟨W1, gW1⟩ : ∃ z, W.drew.setCells b ((i + 1) * 6) ((rowsV gnC G).drop (i * 6)) = z := ⟨_, rfl⟩
  have hx1 : Whole W1 vb 36 (gnC x) := gW1 ▸ hx.dr.cells_far hvb _ _
  have hb1 : Below w.heap.size w W1 := gW1 ▸ below_setCells hO.below.drew (Nat.le_trans hO.lo hlo) _ _
  have hs1 : W1.heap.size = W.heap.size := by rw [← gW1, setCells_size]; rfl
  rw [gW1] at hcp1 hW1
  have hpl : (putR (rowsV gnC G ++ junk) ((i + 1) * 6) ((rowsV gnC G).drop (i * 6))).length = c * 6 := by rw [putR_length _ _ _ (by rw [← hdl, hal]; omega), hal]
  have hcp2 : ∀ ty dc, (Builtin.copy_ #[26, 26] ty #[.slice (some ⟨b, i * 6, none⟩) (n + 1 - i) dc, .slice (some ⟨vb, 0, none⟩) 1 1]).run Try.prog W1 = .ok (goInt (1 : Nat)) (W1.setCells b (i * 6) (gnC x)) := fun ty dc =>
    run_copy_sz W1 _ _ ty 36 6 b (i * 6) (n + 1 - i) dc ⟨vb, 0, none⟩ 1 1 1 _ Try.underlying26 hsz (by simp only [Nat.min_def]; split <;> omega) rfl
      (fun j v hj => by
        rw [Addr.add_lit, Nat.zero_add]
        exact hx1.cell hj)
      (fun j hj => some_whole hW1 (by rw [hpl]; rw [gnC_len] at hj; omega)) (fun j hj => hW1.free _) (gnC_one x)
  have hW2 := hW1.cells_ (gnC x) (i * 6) W1 _ (by rw [hpl, gnC_len]; omega)
  rw [ins_put (rowsV gnC G) junk (gnC x) i n hxl hi hj6 (gnC_len x), (gnC_mul i).1, (gnC_mul i).2] at hW2
  have hrows : rowsV gnC (G.take i) ++ (gnC x ++ rowsV gnC (G.drop i)) = rowsV gnC (G.take i ++ x :: G.drop i) := by rw [rowsV_app]; rfl
  rw [hrows] at hW2
  have hGl : G.length = n := (own_rds hO.own).rlen gnC_len (by decide)
  have hrl : (rowsV gnC (G.take i ++ x :: G.drop i)).length = (n + 1) * 6 := by
    rw [← hrows, List.length_append, List.length_append, ← (gnC_mul i).1, ← (gnC_mul i).2, List.length_take, List.length_drop, hxl, gnC_len]
    omega
  have HF : RowKit.Hid (Ow w B 36 6 (.slice (some ⟨b, 0, none⟩) (n + 1) c) (n + 1) (rowsV gnC (G.take i ++ x :: G.drop i)) (W1.setCells b (i * 6) (gnC x))) := Lib.hid
    ⟨own_mk (junk := junk.drop 6) hW2 hlo (by rw [List.length_append, hrl, List.length_drop, ← hjl]; omega) hroom (by unfold maxLen; omega) hrl,
     below_setCells hb1 (Nat.le_trans hO.lo hlo) _ _, hO.lo, by rw [setCells_size, hs1]; exact hO.hi⟩
  have hz2 : ¬ ((i : Int) = (n : Int)) := by omega
  have hw1 : IntKind.i64.wrap ((i : Int) + 1) = (i : Int) + 1 := by rw [IntKind.wrap_i64]; omega
  have hw2 : IntKind.i64.wrap ((n : Int) + 1) = (n : Int) + 1 := by rw [IntKind.wrap_i64]; omega
  have hb1 : (0 : Int) ≤ (i : Int) + 1 := by omega
  have hin : i ≤ n := by omega
  have htn : ((i : Int) + 1).toNat = i + 1 := by omega
  have htn2 : ((n : Int) + 1).toNat = n + 1 := by omega
  have hb2 : ¬ (c = i + 1) := by omega
  have hb3 : (i : Int) ≤ (n : Int) + 1 := by omega
  have hb4 : ¬ (c = i) := by omega
  have hb5 : ¬ (c : Int) < (n : Int) + 1 := by omega
  have hb6 : (n : Int) + 1 ≤ (c : Int) := by omega
  have mixed : Try.prog.follows Departure.mixedOrders = true := by kernel_rfl
  clear hO hx hne hW hcl hxl hvb hjl hj6 hal hdl hsz hso h1c hW1 gW1 hx1 hpl hW2 hrows hGl hrl hs1
  go_enter Try.func26, Try.ntmps26
  go_wp2_with (simp only [hov])
  go_region_law_o (refine step_copy_runI rfl _ _ 26 26 rfl _ _ (by simp [Act.eval, Act.put]) (by simp [Act.eval, Act.put]) (hcp1 _ _ _) ?_)
  go_wp2_with (at_builtin; refine wpList_copy_runI _ rfl _ _ 26 26 rfl _ _ rfl rfl (hcp2 _ _) ?_)
  go_ret
  exact ⟨_, _, rfl, HF.out⟩
end Go.Proofs.Ytkhklhipiiehbaa

/- slices.Insert over darts that are gone: where there is no room. -/
namespace Go.Proofs.Ytkhklhipiiehbaa
open Go.RowKit
set_option linter.unusedSimpArgs false
set_option linter.unusedVariables false

theorem grow_put (P Z new S : List Value) (i : Nat) (hP : P.length = i * 6) (hn : new.length = 6) (hZ : 6 + S.length ≤ Z.length) :
    putR (putR (P ++ Z) (i * 6) new) ((i + 1) * 6) S = (P ++ (new ++ S)) ++ Z.drop (6 + S.length) := by
  have e1 : putR (P ++ Z) (i * 6) new = (P ++ new) ++ Z.drop 6 := by
    unfold putR
    rw [List.take_append, List.drop_append, hP, hn, Nat.sub_self, List.take_zero, List.append_nil, List.take_of_length_le (by omega), List.drop_of_length_le (by omega), List.nil_append]
    rw [show i * 6 + 6 - i * 6 = 6 by omega, List.append_assoc]
  have hl : (P ++ new).length = (i + 1) * 6 := by rw [List.length_append, hP, hn]; omega
  rw [e1]
  unfold putR
  rw [List.take_append, List.drop_append, hl, Nat.sub_self, List.take_zero, List.append_nil, List.take_of_length_le (by omega), List.drop_of_length_le (by omega), List.nil_append]
  rw [show (i + 1) * 6 + S.length - (i + 1) * 6 = S.length by omega, List.drop_drop]
  simp [List.append_assoc]
theorem zeros6 (k : Nat) : (Builtin.zeroCells (Value.agg #[.int .i64 0, .int .i64 0, .int .i64 0, .int .i64 0, .int .i64 0, .int .i64 0]).cells k).size = k * 6 := by
  simp [Builtin.zeroCells, Value.cells]
set_option maxRecDepth 100000 in
set_option maxHeartbeats 4000000 in
theorem insert_grow {w W : World} {B : Nat} {A : Option Addr} {n vb i : Nat} {G : List Gn} (x : Gn) (hO : Ow w B 36 6 (.slice A n n) n (rowsV gnC G) W) (hx : Whole W vb 36 (gnC x)) (hn : n ≤ 1000) (hi : i < n) :
    Calls Try.prog 26 #[.slice A n n, .int .i64 (i : Int), .slice (some ⟨vb, 0, none⟩) 1 1] W fun e w' => ∃ A' c', e = .returned (.slice A' (n + 1) c') ∧ Ow w B 36 6 (.slice A' (n + 1) c') (n + 1) (rowsV gnC (G.take i ++ x :: G.drop i)) w' := by
  obtain ⟨iG, hiG, z0iG, z1iG, z2iG⟩ := info_partsD info_gone
  obtain ⟨b, junk, rfl, hlo, hW, hcl, hnc, hcm, hxl⟩ := own_place hO.own (by omega)
  have hdl : (n - i) * 6 = ((rowsV gnC G).drop (i * 6)).length := by rw [List.length_drop, hxl, ← Nat.sub_mul]
  have hpl : ((rowsV gnC G).take (i * 6)).length = i * 6 := by rw [List.length_take, hxl]; omega
  have hsz : (Try.prog.info? 36).map (·.size) = some 6 := by rw [hiG]; simp [z1iG]
  have hik : i + (n + 1 - i) = n + 1 := by omega
  have hkk : (n : Int) + 1 - (i : Int) = ((n + 1 - i : Nat) : Int) := by omega
  have h1c : ∀ v ∈ (rowsV gnC G).drop (i * 6), v.oneCell' = true := fun v hv => rowsV_one11 gnC gnC_one G v (List.mem_of_mem_drop hv)
  have hold : (Builtin.firstCells iG.size i (.slice (some ⟨b, 0, none⟩) i n)).run Try.prog W.drew = .ok ((rowsV gnC G).take (i * 6)).toArray W.drew := by
    rw [z1iG]
    exact run_firstCells_some W.drew 6 i ⟨b, 0, none⟩ i n _ hpl (fun j v hj => by
      rw [Addr.add_lit, Nat.zero_add]
      rw [List.getElem?_take] at hj
      split at hj
      · exact hW.dr.cell (i := j) (by rw [List.getElem?_append_left (List.getElem?_eq_some_iff.1 hj).1]; exact hj)
      · cases hj)
  obtain ⟨g, hg⟩ : ∃ g, W.heap.size = g := ⟨_, rfl⟩
  obtain ⟨GC, hGC⟩ : ∃ z, grownCap W (n + 1) n 36 = z := ⟨_, rfl⟩
  have hGn : n + 1 ≤ GC := by rw [← hGC]; exact grownCap_ge W _ _ _
  have hG63 : GC ≤ maxLen := by rw [← hGC]; exact grownCap_le_maxLen W (n + 1) n 36 (by unfold maxLen; omega)
  obtain ⟨ROW, hROW⟩ : ∃ z, ((rowsV gnC G).take (i * 6)).toArray ++ Builtin.zeroCells (Value.agg #[.int .i64 0, .int .i64 0, .int .i64 0, .int .i64 0, .int .i64 0, .int .i64 0]).cells (n + 1 - i) ++ Builtin.zeroCells (Value.agg #[.int .i64 0, .int .i64 0, .int .i64 0, .int .i64 0, .int .i64 0, .int .i64 0]).cells (GC - (n + 1)) = z := ⟨_, rfl⟩
  have hrz : ∀ ty, (Builtin.append_ #[26, 3] ty #[.slice (some ⟨b, 0, none⟩) i n, .int .i64 ((n : Int) + 1 - (i : Int))]).run Try.prog W = .ok (.slice (some ⟨g, 0, none⟩) (n + 1) GC) (W.drew.alloc (.cells ROW 36)) := fun ty => by
    have h := Lib.run_append_grow_zeros W 26 3 ty 36 iG _ .i64 .i64 Try.underlying26 Try.underlying3 hiG z0iG (some ⟨b, 0, none⟩) i n _ hold (n + 1 - i) (by omega) (by omega) (by omega) (by omega) (by rw [z2iG]; omega) (by rw [z2iG, hik]; exact growslice_fits (by omega) (by omega))
    rw [hik, hg, hGC, hROW] at h
    rw [hkk]
    exact h
  obtain ⟨Z, hZ⟩ : ∃ Z, (Builtin.zeroCells (Value.agg #[.int .i64 0, .int .i64 0, .int .i64 0, .int .i64 0, .int .i64 0, .int .i64 0]).cells (n + 1 - i) ++ Builtin.zeroCells (Value.agg #[.int .i64 0, .int .i64 0, .int .i64 0, .int .i64 0, .int .i64 0, .int .i64 0]).cells (GC - (n + 1))).toList = Z := ⟨_, rfl⟩
  have hZl : Z.length = (GC - i) * 6 := by
    rw [← hZ, Array.length_toList, Array.size_append, zeros6, zeros6]
    omega
  have hRl : ROW = ((rowsV gnC G).take (i * 6) ++ Z).toArray := by
    rw [← hROW, ← hZ]
    simp
  have hbg : b ≠ g := by have := hW.lt; omega
  have hvg : vb ≠ g := by have := hx.lt; omega
  obtain ⟨P, hP⟩ : ∃ P, (rowsV gnC G).take (i * 6) = P := ⟨_, rfl⟩
  obtain ⟨S, hS⟩ : ∃ S, (rowsV gnC G).drop (i * 6) = S := ⟨_, rfl⟩
  rw [hP] at hpl hRl
  rw [hS] at hdl h1c
  have hPZ : (P ++ Z).length = GC * 6 := by rw [List.length_append, hpl, hZl]; omega
  have hN1 : Whole (W.drew.alloc (.cells ROW 36)) g 36 (P ++ Z) := by
    rw [hRl]
    exact Whole.new2 hg.symm
  have hX1 : Whole (W.drew.alloc (.cells ROW 36)) vb 36 (gnC x) := hx.dr.alloc _
  have hB1 : Whole (W.drew.alloc (.cells ROW 36)) b 36 (rowsV gnC G ++ junk) := hW.dr.alloc _
  have hW0 := hO.below.size
  have hl1 : Below w.heap.size w (W.drew.alloc (.cells ROW 36)) := bel_al (bel_dr hO.below) _
  have hz1 : (W.drew.alloc (.cells ROW 36)).heap.size = W.heap.size + 1 := by simp
  obtain ⟨V1, gV1⟩ : ∃ z, W.drew.alloc (.cells ROW 36) = z := ⟨_, rfl⟩
  rw [gV1] at hN1 hX1 hB1 hl1 hz1 hrz
  have hcpA : ∀ V, V = V1 → ∀ ty dc, (Builtin.copy_ #[26, 26] ty #[.slice (some ⟨g, i * 6, none⟩) (n + 1 - i) dc, .slice (some ⟨vb, 0, none⟩) 1 1]).run Try.prog V = .ok (goInt (1 : Nat)) (V1.setCells g (i * 6) (gnC x)) := fun V hV ty dc => by
    subst hV
    exact run_copy_sz V _ _ ty 36 6 g (i * 6) (n + 1 - i) dc ⟨vb, 0, none⟩ 1 1 1 _ Try.underlying26 hsz (by simp only [Nat.min_def]; split <;> omega) rfl
      (fun j v hj => by
        rw [Addr.add_lit, Nat.zero_add]
        exact hX1.cell hj)
      (fun j hj => some_whole hN1 (by rw [hPZ]; rw [gnC_len] at hj; omega)) (fun j hj => hN1.free _) (gnC_one x)
  have hN2 := hN1.cells_ (gnC x) (i * 6) V1 _ (by rw [hPZ, gnC_len]; omega)
  have hB2 : Whole (V1.setCells g (i * 6) (gnC x)) b 36 (rowsV gnC G ++ junk) := hB1.cells_far hbg _ _
  have hl2 : Below w.heap.size w (V1.setCells g (i * 6) (gnC x)) := below_setCells hl1 (by omega) _ _
  have hz2 : (V1.setCells g (i * 6) (gnC x)).heap.size = W.heap.size + 1 := by rw [setCells_size, hz1]
  obtain ⟨V2, gV2⟩ : ∃ z, V1.setCells g (i * 6) (gnC x) = z := ⟨_, rfl⟩
  rw [gV2] at hN2 hB2 hl2 hz2 hcpA
  have hp2 : (putR (P ++ Z) (i * 6) (gnC x)).length = GC * 6 := by rw [putR_length _ _ _ (by rw [hPZ, gnC_len]; omega), hPZ]
  have hcpB : ∀ ty dc sc, (Builtin.copy_ #[26, 26] ty #[.slice (some ⟨g, (i + 1) * 6, none⟩) (n - i) dc, .slice (some ⟨b, i * 6, none⟩) (n - i) sc]).run Try.prog V2.drew = .ok (goInt (n - i : Nat)) (V2.drew.setCells g ((i + 1) * 6) S) := fun ty dc sc =>
    run_copy_sz V2.drew _ _ ty 36 6 g ((i + 1) * 6) (n - i) dc ⟨b, i * 6, none⟩ (n - i) sc (n - i) _ Try.underlying26 hsz (by simp only [Nat.min_def]; split <;> omega) hdl
      (fun j v hj => by
        rw [Addr.add_lit]
        rw [← hS, List.getElem?_drop] at hj
        exact hB2.dr.cell (i := i * 6 + j) (by rw [List.getElem?_append_left (List.getElem?_eq_some_iff.1 hj).1]; exact hj))
      (fun j hj => some_whole hN2.dr (by rw [← hdl] at hj; rw [hp2]; omega)) (fun j hj => hN2.dr.free _) h1c
  have hN3 := hN2.dr.cells_ S ((i + 1) * 6) V2.drew _ (by rw [← hdl, hp2]; omega)
  rw [grow_put P Z (gnC x) S i hpl (gnC_len x) (by rw [← hdl, hZl]; omega)] at hN3
  have hrows : P ++ (gnC x ++ S) = rowsV gnC (G.take i ++ x :: G.drop i) := by rw [← hP, ← hS, (gnC_mul i).1, (gnC_mul i).2, rowsV_app]; rfl
  have hrl : (P ++ (gnC x ++ S)).length = (n + 1) * 6 := by rw [List.length_append, List.length_append, hpl, gnC_len, ← hdl]; omega
  have hzl : (Z.drop (6 + S.length)).length = (GC - (n + 1)) * 6 := by rw [List.length_drop, hZl, ← hdl]; omega
  have HF : RowKit.Hid (Ow w B 36 6 (.slice (some ⟨g, 0, none⟩) (n + 1) GC) (n + 1) (rowsV gnC (G.take i ++ x :: G.drop i)) (V2.drew.setCells g ((i + 1) * 6) S)) := Lib.hid (by
    rw [← hrows]
    exact ⟨own_mk (junk := Z.drop (6 + S.length)) hN3 (by have := hO.hi; omega) (by rw [List.length_append, hrl, hzl]; omega) hGn hG63 hrl, below_setCells (bel_dr hl2) (by omega) _ _, hO.lo, by rw [setCells_size]; show B ≤ V2.heap.size; have := hO.hi; omega⟩)
  have hz3 : ¬ ((i : Int) = (n : Int)) := by omega
  have hw1 : IntKind.i64.wrap ((i : Int) + 1) = (i : Int) + 1 := by rw [IntKind.wrap_i64]; omega
  have hw2 : IntKind.i64.wrap ((n : Int) + 1) = (n : Int) + 1 := by rw [IntKind.wrap_i64]; omega
  have hw3 : IntKind.i64.wrap ((n : Int) + 1 - (i : Int)) = (n : Int) + 1 - (i : Int) := by rw [IntKind.wrap_i64]; omega
  have hb1 : (0 : Int) ≤ (i : Int) + 1 := by omega
  have hin : i ≤ n := by omega
  have htn : ((i : Int) + 1).toNat = i + 1 := by omega
  have hb2 : ¬ (GC = i + 1) := by omega
  have hb3 : (i : Int) ≤ (n : Int) := by omega
  have hb4 : ¬ (n = i) := by omega
  have hb5 : ¬ (GC = i) := by omega
  have hb6 : (n : Int) < (n : Int) + 1 := by omega
  unfold maxLen at hG63
  have mixed : Try.prog.follows Departure.mixedOrders = true := by kernel_rfl
  subst gV1
  have hcpC : ∀ ty dc, (Builtin.copy_ #[26, 26] ty #[.slice (some ⟨g, i * 6, none⟩) (n + 1 - i) dc, .slice (some ⟨vb, 0, none⟩) 1 1]).run Try.prog (W.alloc (.cells ROW 36)).drew = .ok (goInt (1 : Nat)) V2 := fun ty dc => hcpA _ rfl ty dc
  clear hcpA gV2
  clear hO hx hW hcl hxl hvg hbg hdl hsz h1c hold hpl hik hkk hROW hZl hRl hZ hPZ hN1 hX1 hB1 hl1 hz1 hN2 hB2 hl2 hz2 hp2 hN3 hrows hrl hzl hP hS hGC hW0
  go_enter Try.func26, Try.ntmps26
  go_wp2_with (first
    | (at_builtin; refine Lib.wpList_append_run _ rfl _ _ _ _ rfl _ _ rfl rfl _ _ (hrz _) ?_)
    | (at_builtin; refine wpList_copy_runI _ rfl _ _ 26 26 rfl _ _ rfl rfl (hcpC _ _) ?_))
  go_region_law_o (refine step_copy_runI rfl _ _ 26 26 rfl _ _ (by simp [Act.eval, Act.put]) (by simp [Act.eval, Act.put]) (hcpB _ _ _) ?_)
  go_wp2
  go_ret
  exact ⟨_, _, rfl, HF.out⟩
end Go.Proofs.Ytkhklhipiiehbaa

/- slices.Insert and slices.Clone over darts that are gone. -/
namespace Go.Proofs.Ytkhklhipiiehbaa
open Go.RowKit
set_option linter.unusedSimpArgs false
set_option linter.unusedVariables false

theorem insert_any {w W : World} {B : Nat} {A : Option Addr} {n c vb i : Nat} {G : List Gn} (x : Gn) (hO : Ow w B 36 6 (.slice A n c) n (rowsV gnC G) W) (hx : Whole W vb 36 (gnC x)) (hne : some vb ≠ (Value.slice A n c).ownBlock) (hn : n ≤ 1000) (hi : i ≤ n) :
    Calls Try.prog 26 #[.slice A n c, .int .i64 (i : Int), .slice (some ⟨vb, 0, none⟩) 1 1] W fun e w' => ∃ A' c', e = .returned (.slice A' (n + 1) c') ∧ Ow w B 36 6 (.slice A' (n + 1) c') (n + 1) (rowsV gnC (G.take i ++ x :: G.drop i)) w' := by
  have hnc : n ≤ c := (own_rds hO.own).le
  have hGl : G.length = n := (own_rds hO.own).rlen gnC_len (by decide)
  rcases Nat.lt_or_ge i n with h | h
  · rcases Nat.lt_or_ge n c with h2 | h2
    · exact insert_room x hO hx hne hn h h2
    · obtain rfl : n = c := by omega
      exact insert_grow x hO hx hn h
  · obtain rfl : n = i := by omega
    rw [List.take_of_length_le (by omega), List.drop_of_length_le (by omega)]
    exact insert_end x hO (by rw [rows_one11]; exact RdS.of_whole hx rfl) hn
set_option maxRecDepth 100000 in
theorem cloneGs (A : Option Addr) (n c : Nat) (xs : List Value) (w : World) (h : RdS w w.heap.size 6 A n c xs) (h1 : ∀ u ∈ xs, u.oneCell' = true) (hn : n ≤ 1000000) :
    Calls Try.prog 22 #[.slice A n c] w fun e w' => ∃ A' c', e = .returned (.slice A' n c') ∧ Ow w w.heap.size 36 6 (.slice A' n c') n xs w' := by
  obtain ⟨i0, hi, hz0, hz1, hz2⟩ := info_partsD info_gone
  cases A with
  | none =>
    obtain ⟨rfl, rfl⟩ := h.none_ rfl
    have hnil : xs = [] := List.eq_nil_of_length_eq_zero (by simpa using h.len)
    subst hnil
    have hnil : ∀ w', (binOp .eql 26 (.slice none 0 0) (.slice none 0 0)).run Try.prog w' = .ok (.bool true) w' := fun w' => Lib.run_eql_slice_nil w' _ _ _ _ _ _ _ Try.underlying26
    clear h h1
    go_enter Try.func22, Try.ntmps22
    go_wp2
    go_ret
    exact ⟨_, _, rfl, Ow.nil_ (Below.refl _ _) (Nat.le_refl _) (Nat.le_refl _)⟩
  | some a =>
    have H := Lib.hid (h.al (.cells #[] 36))
    have HO : RowKit.Hid (Ow w w.heap.size 36 6 (.slice (some ⟨w.heap.size, 0, none⟩) 0 0) 0 [] (w.alloc (.cells #[] 36))) := Lib.hid (Ow.new_ (cs := #[]) (Below.refl _ _) (Nat.le_refl _) (Nat.le_refl _) (Nat.zero_le _) rfl)
    have hnil : ∀ w', (binOp .eql 26 (.slice (some a) n c) (.slice none 0 0)).run Try.prog w' = .ok (.bool false) w' := fun w' => Lib.run_eql_slice_nil w' _ _ _ _ _ _ _ Try.underlying26
    clear h
    go_enter Try.func22, Try.ntmps22
    go_wp2_with (first
      | (at_builtin
         refine wpList_push2 rfl (.tmp 5) (.tmp 6) _ rfl _ 36 i0 _ 6 48 Try.underlying26 hi hz0 hz1 hz2 rfl (by decide) _ _ _ rfl (by exact HO.out) _ (some a) n c xs rfl (by exact H.out) h1 (by unfold maxLen; omega) (by omega) ?_
         intro v1 w1 how1 hb1 hgr
         rw [Nat.zero_add, List.nil_append] at how1
         obtain ⟨Aq, cq, rfl, -⟩ := how1.rds
         have HO1 := Lib.hid how1
         clear how1 hb1 hgr))
    go_ret
    exact ⟨_, _, rfl, HO1.out⟩
end Go.Proofs.Ytkhklhipiiehbaa

/- Add. -/
namespace Go.Proofs.Ytkhklhipiiehbaa
open Go.RowKit
set_option linter.unusedSimpArgs false
set_option linter.unusedVariables false

/-- Where there is room: in its place, in the stead of one of the same dart. -/
def addG : List Gn → Gn → List Gn
  | [], x => [x]
  | y :: G, x => if ordG y x < 0 then y :: addG G x else if ordG y x = 0 then x :: G else x :: y :: G
theorem addG_at : ∀ (G : List Gn) (x : Gn) (i : Nat) (cf : Nat → Int), (∀ t y, G[t]? = some y → ordG y x = cf t) → i ≤ G.length → (∀ t, t < i → cf t < 0) → (∀ t, i ≤ t → t < G.length → 0 ≤ cf t) →
    addG G x = if i < G.length ∧ cf i = 0 then G.set i x else G.take i ++ x :: G.drop i
  | [], x, i, cf, hc, hi, h1, h2 => by
    obtain rfl : i = 0 := by simpa using hi
    rw [if_neg (fun q => by simp at q)]
    rfl
  | y :: G, x, i, cf, hc, hi, h1, h2 => by
    have h0 : ordG y x = cf 0 := hc 0 y rfl
    cases i with
    | zero =>
      have h3 : 0 ≤ cf 0 := h2 0 (Nat.le_refl _) (by simp)
      show (if ordG y x < 0 then _ else _) = _
      rw [if_neg (by omega)]
      by_cases hz : cf 0 = 0
      · rw [if_pos (by omega), if_pos ⟨by simp, hz⟩]
        rfl
      · rw [if_neg (by omega), if_neg (fun q => hz q.2)]
        rfl
    | succ i =>
      have h3 : cf 0 < 0 := h1 0 (by omega)
      show (if ordG y x < 0 then _ else _) = _
      rw [if_pos (by omega), addG_at G x i (fun t => cf (t + 1)) (fun t z hz => hc (t + 1) z hz) (by simpa using hi) (fun t ht => h1 (t + 1) (by omega)) (fun t h4 h5 => h2 (t + 1) (by omega) (by simpa using h5))]
      by_cases hq : i < G.length ∧ cf (i + 1) = 0
      · rw [if_pos hq, if_pos ⟨by simpa using hq.1, hq.2⟩]
        rfl
      · rw [if_neg hq, if_neg (fun q => hq ⟨by simpa using q.1, q.2⟩)]
        rfl
theorem wl_store9 {P : Program} {ops : Array Oper} {Q : Exit → Act → World → Prop} {o : Oper} {rest : List Oper} {a : Act} {w w' : World} (hd : o.dst = none) (hw : Region.wanted o (yielded ops a.tmps) = true) (hrun : (execOp a.eval o).run P w = .ok .skip w')
    (h : wpList P ops Q rest a w') : wpList P ops Q (o :: rest) a w := by
  refine wpList_step fun K hK => ?_
  rw [if_pos hw]
  unfold Oper.wp
  rw [hrun, Oper.upon_skip, hd]
  exact hK _ _ h
set_option maxRecDepth 100000 in
set_option maxHeartbeats 4000000 in
theorem add_any (A : Option Addr) (n c : Nat) (G : List Gn) (x : Gn) (w : World) (h : RdS w w.heap.size 6 A n c (rowsV gnC G)) (hn : n ≤ 399) (cf : Nat → Int) (hcf : ∀ t y, G[t]? = some y → ordG y x = cf t) (hmono : ∀ a b, a ≤ b → b < n → cf b < 0 → cf a < 0) :
    Calls Try.prog 12 #[.slice A n c, .agg #[.int .i64 x.1.1, .int .i64 x.1.2.1, .int .i64 x.1.2.2, .int .i64 x.2.1, .int .i64 x.2.2.1, .int .i64 x.2.2.2]] w fun e w' => ∃ A' c', e = .returned (.slice A' (addG G x).length c') ∧ RdS w' w'.heap.size 6 A' (addG G x).length c' (rowsV gnC (addG G x)) ∧ Below w.heap.size w w' := by
  have H := Lib.hid h
  have Hl := Lib.hid (h.rlen gnC_len (by decide))
  have Hcf := Lib.hid hcf
  have HM := Lib.hid hmono
  obtain ⟨G2, gG2⟩ : ∃ z, addG G x = z := ⟨_, rfl⟩
  obtain ⟨N2, gN2⟩ : ∃ z, G2.length = z := ⟨_, rfl⟩
  rw [gG2, gN2]
  have HG2 := Lib.hid gG2
  have HN2 := Lib.hid gN2
  have q1 : decide ((400 : Int) ≤ (n : Int)) = false := decide_eq_false (by omega)
  have q2 : decide (400 ≤ n) = false := decide_eq_false (by omega)
  clear h hcf hmono gG2 gN2
  go_enter Try.func12, Try.ntmps12
  go_upto_if 20 with (first
    | (go_at_call 22
       refine (cloneGs A n c (rowsV gnC G) _ (by exact H.out.bl (below1 _ _)) (rowsV_one11 gnC gnC_one G) (by omega)).mono ?_
       rintro e w1 ⟨A1, c1, rfl, ho1⟩
       have HO1 := Lib.hid ho1
       have HX1 := Lib.hid ((Whole.new_ w 36 [.int .i64 x.1.1, .int .i64 x.1.2.1, .int .i64 x.1.2.2, .int .i64 x.2.1, .int .i64 x.2.2.1, .int .i64 x.2.2.2]).below ho1.below)
       have HB1 : RowKit.Hid (Below w.heap.size w w1) := Lib.hid (bel_bl (below1 w (.cells #[.int .i64 x.1.1, .int .i64 x.1.2.1, .int .i64 x.1.2.2, .int .i64 x.2.1, .int .i64 x.2.2.1, .int .i64 x.2.2.2] 36)) ho1.below)
       have l0 := HX1.out.cell (i := 0) rfl
       have l1 := HX1.out.cell (i := 1) rfl
       have l2 := HX1.out.cell (i := 2) rfl
       clear ho1)
    | (go_at_call 23
       refine (bsearch_any A n c G x.1.1 x.1.2.1 x.1.2.2 _ (by exact H.out.bl HB1.out) (by omega) cf Hcf.out HM.out).mono ?_
       rintro e w2 ⟨i, hin, hi1, hi2, rfl, hb2⟩
       have HI := Lib.hid (addG_at G x i cf Hcf.out (by rw [Hl.out]; exact hin) hi1 (by rw [Hl.out]; exact hi2))
       have HO2 := Lib.hid (HO1.out.up hb2)
       have HX2 := Lib.hid (HX1.out.below hb2)
       have HB2 := Lib.hid (bel_bl HB1.out hb2)
       clear hi1 hi2 hb2 HO1 HX1 HB1 l0 l1 l2 H Hcf HM))
  obtain ⟨bt, gbt⟩ : ∃ z, (decide (i < n) && decide (cf i = 0)) = z := ⟨_, rfl⟩
  rw [gbt]
  have Gbt := Lib.hid gbt
  clear gbt
  have l0 := HX2.out.cell (i := 0) rfl
  have l1 := HX2.out.cell (i := 1) rfl
  have l2 := HX2.out.cell (i := 2) rfl
  have l3 := HX2.out.cell (i := 3) rfl
  have l4 := HX2.out.cell (i := 4) rfl
  have l5 := HX2.out.cell (i := 5) rfl
  cases bt with
  | false =>
    have HGe : RowKit.Hid (G2 = G.take i ++ x :: G.drop i) := Lib.hid (by
      rw [← HG2.out, HI.out, if_neg]
      rintro ⟨q3, q4⟩
      have hb := Gbt.out
      rw [decide_eq_true (show i < n by rw [← Hl.out]; exact q3), decide_eq_true q4] at hb
      cases hb)
    clear HI
    go_wp2_with (first
      | (go_at_call 26
         refine (insert_any x (by exact HO2.out.up (below1 w2 _)) (by exact Whole.new_ w2 36 (gnC x)) (by exact Ow.ne_ HO2.out (Nat.le_refl _)) (by omega) hin).mono ?_
         rintro e w4 ⟨A4, c4, rfl, ho4⟩
         have HO4 := Lib.hid ho4
         clear ho4 HO2 HX2 HB2 l0 l1 l2 l3 l4 l5))
    have hN : N2 = n + 1 := by
      rw [← HN2.out, HGe.out, List.length_append, List.length_cons, List.length_take, List.length_drop, Hl.out]
      omega
    obtain ⟨_, _, he4, hr4⟩ := HO4.out.rds
    injection he4 with qa qb qc
    subst qa qc
    rw [← HGe.out] at hr4
    have HR4 := Lib.hid hr4
    have HB4 : RowKit.Hid (Below w.heap.size w w4) := Lib.hid (bel_bl (below1 w (.cells #[.int .i64 x.1.1, .int .i64 x.1.2.1, .int .i64 x.1.2.2, .int .i64 x.2.1, .int .i64 x.2.2.1, .int .i64 x.2.2.2] 36)) HO4.out.below)
    clear hr4 HO4
    subst hN
    go_wp2
    go_ret
    exact ⟨A4, c4, rfl, HR4.out, HB4.out⟩
  | true =>
    have hb := Gbt.out
    rw [Bool.and_eq_true, decide_eq_true_iff, decide_eq_true_iff] at hb
    have hlt := hb.1
    have HGe : RowKit.Hid (G2 = G.set i x) := Lib.hid (by
      rw [← HG2.out, HI.out, if_pos ⟨by rw [Hl.out]; exact hb.1, hb.2⟩])
    obtain ⟨p, hp⟩ : ∃ p, n - 1 = p := ⟨_, rfl⟩
    have e1 : (n : Int) - 1 = (p : Int) := by omega
    have e2 : IntKind.i64.wrap (p : Int) = (p : Int) := IntWalk.i64_in _ (by omega)
    have q3 : decide ((400 : Int) ≤ (p : Int)) = false := decide_eq_false (by omega)
    have q4 : decide (400 ≤ p) = false := decide_eq_false (by omega)
    obtain ⟨b, junk, rfl, hlo, hW, hcl, hnc, hcm, hxl⟩ := own_place HO2.out.own (by omega)
    have hN : N2 = n := by rw [← HN2.out, HGe.out, List.length_set, Hl.out]
    have hbl : Below w.heap.size w (w2.setCells b (i * 6) (gnC x)) := below_setCells HB2.out (by have := hlo; simp at this; omega) _ _
    have hW3 := hW.cells_ (gnC x) (i * 6) w2 _ (by rw [hcl, gnC_len]; omega)
    rw [rowsV_put gnC_len G junk i x (by rw [Hl.out]; exact hlt), ← HGe.out] at hW3
    have hl2 : (rowsV gnC G2).length = n * 6 := by rw [rowsV_length gnC gnC_len, HN2.out, hN]
    have hO3 := own_mk hW3 hlo (by rw [List.length_append, hl2, ← hcl, List.length_append, hxl]) hnc hcm hl2
    have HR3 := Lib.hid (own_rds hO3)
    have HB3 := Lib.hid hbl
    have HTh := Lib.hid (hW.there_ (i * 6) 6 (by rw [hcl]; omega))
    have hltI : (i : Int) < (n : Int) := by omega
    clear HI HGe hb hlo hW hcl hcm hxl hbl hW3 hl2 hO3 HO2 HB2 hp
    subst hN
    go_upto_region 9 with fail
    refine wp_region_lit ?_
    refine wl_read (v := ?_) (some 27) rfl (by rfl) ?_ ?_
    rotate_left
    · go_simp; (try with_reducible rfl)
    simp only [Act.put, List.setIfInBounds_toArray, List.set_cons_zero, List.set_cons_succ]
    refine wl_read (v := ?_) (some 28) rfl (by rfl) ?_ ?_
    rotate_left
    · go_simp; (try with_reducible rfl)
    simp only [Act.put, List.setIfInBounds_toArray, List.set_cons_zero, List.set_cons_succ]
    refine wl_load (some 29) rfl (by rfl) 36 (.tmp 3) rfl _ rfl 36 (gnC x) _ (by exact HX2.out) Try.underlying36 rfl (by kernel_rfl) ?_
    simp only [Act.put, List.setIfInBounds_toArray, List.set_cons_zero, List.set_cons_succ]
    refine wl_read (v := ?_) (some 30) rfl (by rfl) ?_ ?_
    rotate_left
    · go_simp; (try with_reducible rfl)
    simp only [Act.put, List.setIfInBounds_toArray, List.set_cons_zero, List.set_cons_succ]
    refine wl_store9 rfl (by rfl) (store_mid_run 36 (.tmp 30) (.tmp 29) rfl b (i * 6) rfl (gnC x) rfl HTh.out (by kernel_rfl) (gnC_one x)) ?_
    clear l0 l1 l2 l3 l4 l5 HX2 HTh
    go_wp2
    go_ret
    exact ⟨_, _, rfl, HR3.out, HB3.out⟩
end Go.Proofs.Ytkhklhipiiehbaa

/- Darts that are added, in numbers: what is found of them, and that they rise. -/
namespace Go.Proofs.Ytkhklhipiiehbaa
open Go.RowKit
set_option linter.unusedSimpArgs false
set_option linter.unusedVariables false

theorem ordG_zero (y x : Gn) : ordG y x = 0 ↔ y.1 = x.1 := by
  unfold ordG
  rw [ordD_zero]
  obtain ⟨⟨a, b, c⟩, y2⟩ := y
  obtain ⟨⟨d, e, f⟩, x2⟩ := x
  simp
/-- What was added is found. -/
theorem find_added : ∀ (G : List Gn) (x : Gn), findG (addG G x) x.1 = (x.2, true)
  | [], x => by
    show findG [x] x.1 = _
    rw [findG, if_pos rfl]
  | y :: G, x => by
    show findG (if ordG y x < 0 then y :: addG G x else if ordG y x = 0 then x :: G else x :: y :: G) x.1 = _
    by_cases h : ordG y x < 0
    · have hne : ¬ y.1 = x.1 := fun e => by have := (ordG_zero y x).2 e; omega
      rw [if_pos h, findG, if_neg hne]
      exact find_added G x
    · rw [if_neg h]
      by_cases h0 : ordG y x = 0
      · rw [if_pos h0, findG, if_pos rfl]
      · rw [if_neg h0, findG, if_pos rfl]
/-- The others are found as they were. -/
theorem find_others : ∀ (G : List Gn) (x : Gn) {d : D}, ¬ d = x.1 → findG (addG G x) d = findG G d
  | [], x, d, hd => by
    show (if x.1 = d then (x.2, true) else findG [] d) = findG [] d
    rw [if_neg (fun e => hd e.symm)]
  | y :: G, x, d, hd => by
    have hx : ¬ x.1 = d := fun e => hd e.symm
    show findG (if ordG y x < 0 then y :: addG G x else if ordG y x = 0 then x :: G else x :: y :: G) d = _
    by_cases h : ordG y x < 0
    · rw [if_pos h, findG, find_others G x hd, findG]
    · rw [if_neg h]
      by_cases h0 : ordG y x = 0
      · have hy : ¬ y.1 = d := fun e => hx (((ordG_zero y x).1 h0).symm.trans e)
        rw [if_pos h0, findG, if_neg hx, findG, if_neg hy]
      · rw [if_neg h0, findG, if_neg hx]
theorem addG_len : ∀ (G : List Gn) (x : Gn), (addG G x).length ≤ G.length + 1
  | [], x => Nat.le_refl _
  | y :: G, x => by
    show (if ordG y x < 0 then y :: addG G x else if ordG y x = 0 then x :: G else x :: y :: G).length ≤ G.length + 1 + 1
    have := addG_len G x
    split
    · simp only [List.length_cons]; omega
    · split <;> simp
/-- Each one is less than the next. -/
def Rises : List Gn → Prop
  | [] => True
  | [_] => True
  | y :: z :: G => ordG y z < 0 ∧ Rises (z :: G)
theorem rises_snoc : ∀ (T : List Gn) (x : Gn), Rises T → risOk T x = true → Rises (T ++ [x])
  | [], x, _, _ => trivial
  | [y], x, _, h => ⟨of_decide_eq_true h, trivial⟩
  | y :: z :: T, x, h, hk => ⟨h.1, rises_snoc (z :: T) x h.2 hk⟩
theorem rises_ris : ∀ (G T : List Gn), Rises T → Rises (risA T G)
  | [], T, h => h
  | x :: G, T, h => by
    show Rises (risA (if risOk T x = true then T ++ [x] else T) G)
    refine rises_ris G _ ?_
    split
    · rename_i hk; exact rises_snoc T x h hk
    · exact h
theorem rises_take : ∀ (G : List Gn) (n : Nat), Rises G → Rises (G.take n)
  | [], n, _ => by rw [List.take_nil]; trivial
  | [y], 0, _ => trivial
  | [y], n + 1, _ => by rw [List.take_succ_cons, List.take_nil]; trivial
  | y :: z :: G, 0, _ => trivial
  | y :: z :: G, 1, _ => trivial
  | y :: z :: G, n + 2, h => ⟨h.1, rises_take (z :: G) (n + 1) h.2⟩
theorem ordG_trans {a b c : Gn} (h : ordG a b ≤ 0) (k : ordG b c ≤ 0) : ordG a c ≤ 0 := ordD_trans _ _ _ _ _ _ _ _ _ h k
theorem ordG_neg (a b : Gn) : ordG b a = - ordG a b := ordD_neg _ _ _ _ _ _
theorem ordG_self (a : Gn) : ordG a a = 0 := (ordG_zero a a).2 rfl
theorem rises_tail {y : Gn} {G : List Gn} (h : Rises (y :: G)) : Rises G := by
  cases G with
  | nil => trivial
  | cons z G => exact h.2
theorem rises_first : ∀ (G : List Gn) {y z : Gn}, Rises (y :: G) → z ∈ y :: G → ordG y z ≤ 0
  | [], y, z, h, hz => by
    obtain rfl := List.mem_singleton.1 hz
    rw [ordG_self]
    exact Int.le_refl _
  | z1 :: G, y, z, h, hz => by
    rcases List.mem_cons.1 hz with rfl | hz
    · rw [ordG_self]; exact Int.le_refl _
    · exact ordG_trans (Int.le_of_lt h.1) (rises_first G h.2 hz)
theorem rises_le : ∀ (G : List Gn) (a b : Nat) {z y : Gn}, Rises G → a ≤ b → G[a]? = some z → G[b]? = some y → ordG z y ≤ 0
  | [], a, b, z, y, h, hab, hz, hy => by simp at hz
  | g :: G, 0, b, z, y, h, hab, hz, hy => by
    obtain rfl : g = z := by simpa using hz
    exact rises_first G h (List.mem_of_getElem? hy)
  | g :: G, a + 1, 0, z, y, h, hab, hz, hy => by omega
  | g :: G, a + 1, b + 1, z, y, h, hab, hz, hy => rises_le G a b (rises_tail h) (by omega) (by simpa using hz) (by simpa using hy)
/-- A row that rises is searched by halves. -/
theorem rises_mono {G : List Gn} (h : Rises G) (x : Gn) {a b : Nat} {z y : Gn} (hab : a ≤ b) (hz : G[a]? = some z) (hy : G[b]? = some y) (hb : ordG y x < 0) : ordG z x < 0 := by
  have h1 := rises_le G a b h hab hz hy
  have h2 := ordG_trans h1 (Int.le_of_lt hb)
  have h3 : ordG z x ≠ 0 := fun e => by
    have e1 := (ordG_zero z x).1 e
    have e2 : ordG y x = ordG y z := by unfold ordG; rw [e1]
    rw [e2, ordG_neg z y] at hb
    omega
  omega
/-- How the one that is added stands to each. -/
def cfG (G : List Gn) (x : Gn) (t : Nat) : Int := ordG (G.getD t (zD, zD)) x
theorem cfG_at (G : List Gn) (x : Gn) : ∀ t y, G[t]? = some y → ordG y x = cfG G x t := fun t y h => by
  unfold cfG
  rw [List.getD_eq_getElem?_getD, h]
  rfl
theorem cfG_mono {G : List Gn} (h : Rises G) (x : Gn) {n : Nat} (hn : G.length = n) : ∀ a b, a ≤ b → b < n → cfG G x b < 0 → cfG G x a < 0 := fun a b hab hb hc => by
  have ha := List.getElem?_eq_getElem (l := G) (i := a) (by omega)
  have hb2 := List.getElem?_eq_getElem (l := G) (i := b) (by omega)
  rw [← cfG_at G x b _ hb2] at hc
  rw [← cfG_at G x a _ ha]
  exact rises_mono h x hab ha hb2 hc
end Go.Proofs.Ytkhklhipiiehbaa

/- The law's state: darts added. -/
namespace Go.Proofs.Ytkhklhipiiehbaa
open Go.RowKit
set_option linter.unusedSimpArgs false
set_option linter.unusedVariables false

/-- Add on a row that rises, of at most 399. -/
theorem add_rises (A : Option Addr) (n c : Nat) (G : List Gn) (x : Gn) (w : World) (h : RdS w w.heap.size 6 A n c (rowsV gnC G)) (hn : n ≤ 399) (hr : Rises G) :
    Calls Try.prog 12 #[.slice A n c, .agg (gnC x).toArray] w fun e w' => ∃ A' N' c', N' ≤ n + 1 ∧ (addG G x).length = N' ∧ e = .returned (.slice A' N' c') ∧ RdS w' w'.heap.size 6 A' N' c' (rowsV gnC (addG G x)) ∧ Below w.heap.size w w' := by
  have hl : G.length = n := h.rlen gnC_len (by decide)
  refine (add_any A n c G x w h hn (cfG G x) (cfG_at G x) (cfG_mono hr x hl)).mono ?_
  rintro e w' ⟨A', c', rfl, hrd, hb⟩
  exact ⟨A', _, c', by have := addG_len G x; omega, rfl, rfl, hrd, hb⟩
variable {W : World} {b0 : Nat} {A B C : Option Addr} {n c m k g gc : Nat} {V : List VC} {E : List EC} {G : List Gn}
theorem StIn.add (h : StIn W b0 A n c V B m k E C g gc G) (hr : Rises G) (x : Gn) :
    Calls Try.prog 12 #[.slice C g gc, .agg (gnC x).toArray] W fun e w' => ∃ A' N' c', N' ≤ g + 1 ∧ (addG G x).length = N' ∧ e = .returned (.slice A' N' c') ∧ RdS w' w'.heap.size 6 A' N' c' (rowsV gnC (addG G x)) ∧ Below W.heap.size W w' :=
  add_rises C g gc G x W h.gn (by have := h.g390; omega) hr
/-- What is resolved is there, or zero, and is resolved to itself. -/
theorem res_stays (V : List VC) (G : List Gn) (g : Nat) (d : D) : resG (stV V) G g d = zD ∨ (stV V (resG (stV V) G g d) = true ∧ resG (stV V) G g (resG (stV V) G g d) = resG (stV V) G g d) := by
  rcases resG_there (stV V) G g d with h | h
  · exact .inl h
  · exact .inr ⟨h, resG_self _ _ _ h⟩
/-- A corner that was resolved is behind a dart of its own ring, or a zero one, and stays so. -/
theorem near_stays {V : List VC} {G : List Gn} {g : Nat} {x : Int × Int} {r : VC} (hz : fndV V x = (r, true)) (d : D) :
    nearC V G g x d = zD ∨ (nearC V G g x d ∈ r.2.1.2.2.2 ∧ nearC V G g x (nearC V G g x d) = nearC V G g x d) := by
  have e : nearC V G g x d = if resG (stV V) G g d ∈ r.2.1.2.2.2 then resG (stV V) G g d else zD := by unfold nearC; rw [hz]
  by_cases h : resG (stV V) G g d ∈ r.2.1.2.2.2
  · rw [if_pos h] at e
    rw [e]
    exact .inr ⟨h, (near_in hz h).1⟩
  · rw [if_neg h] at e
    exact .inl e
end Go.Proofs.Ytkhklhipiiehbaa

/- AnchorStays. -/
namespace Go.Proofs.Ytkhklhipiiehbaa
open Go.RowKit
set_option linter.unusedSimpArgs false
set_option linter.unusedVariables false

theorem find_in5 {W : World} {A : Option Addr} {n c : Nat} {G : List Gn} {d1 d2 d3 z1 z2 z3 : Int} {ok : Bool} (h : RdS W W.heap.size 6 A n c (rowsV gnC G)) (hn : n ≤ 1000) (hz : findG G (d1, d2, d3) = ((z1, z2, z3), ok)) :
    Calls Try.prog 13 #[.slice A n c, .agg #[.int .i64 d1, .int .i64 d2, .int .i64 d3]] W fun e w' => e = .returned (.tuple #[.agg #[.int .i64 z1, .int .i64 z2, .int .i64 z3], .bool ok]) ∧ Below W.heap.size W w' := by
  have e := find_any A n c G (d1, d2, d3) W h (by omega)
  rw [hz] at e
  exact e
theorem neq_dart_self (a b c : Int) (W : World) : (binOp .neq 32 (.agg #[.int .i64 a, .int .i64 b, .int .i64 c]) (.agg #[.int .i64 a, .int .i64 b, .int .i64 c])).run Try.prog W = .ok (.bool false) W := by
  have e := neq_dart_run (a, b, c) (a, b, c) W
  rw [decide_eq_true rfl] at e
  exact e
theorem neq_dart_not {a b c a' b' c' : Int} (h : ((a, b, c) : D) ≠ (a', b', c')) (W : World) : (binOp .neq 32 (.agg #[.int .i64 a, .int .i64 b, .int .i64 c]) (.agg #[.int .i64 a', .int .i64 b', .int .i64 c'])).run Try.prog W = .ok (.bool true) W := by
  have e := neq_dart_run (a, b, c) (a', b', c') W
  rw [decide_eq_false h] at e
  exact e
theorem neq_dart_yes {a b c a' b' c' : Int} (h : ((a, b, c) : D) = (a', b', c')) (W : World) : (binOp .neq 32 (.agg #[.int .i64 a, .int .i64 b, .int .i64 c]) (.agg #[.int .i64 a', .int .i64 b', .int .i64 c'])).run Try.prog W = .ok (.bool false) W := by
  have e := neq_dart_run (a, b, c) (a', b', c') W
  rw [decide_eq_true h] at e
  exact e
theorem eq_dart_not {a b c a' b' c' : Int} (h : ((a, b, c) : D) ≠ (a', b', c')) (W : World) : (binOp .eql 32 (.agg #[.int .i64 a, .int .i64 b, .int .i64 c]) (.agg #[.int .i64 a', .int .i64 b', .int .i64 c'])).run Try.prog W = .ok (.bool false) W := by
  have e := eq_dart_run (a, b, c) (a', b', c') W
  rw [decide_eq_false h] at e
  exact e
set_option maxRecDepth 100000 in
set_option maxHeartbeats 4000000 in
theorem law_stays (A : Option Addr) (n c : Nat) (Vs : List VC) (B : Option Addr) (m k : Nat) (Es : List EC) (C : Option Addr) (g gc : Nat) (G : List Gn) (d1 d2 d3 v1 v2 a1 a2 a3 p1 p2 p3 o1 o2 o3 : Int) (w : World) (h : DgIn w A n c Vs B m k Es) (hg : RdS w w.heap.size 6 C g gc (rowsV gnC G)) (hn : n ≤ maxLen) (hm : m ≤ maxLen) (hgl : g ≤ maxLen) :
    Calls Try.prog 3 #[.agg #[.slice A n c, .slice B m k, .slice C g gc], .agg #[.int .i64 d1, .int .i64 d2, .int .i64 d3], .agg #[.int .i64 v1, .int .i64 v2, .int .i64 a1, .int .i64 a2, .int .i64 a3, .int .i64 p1, .int .i64 p2, .int .i64 p3, .int .i64 o1, .int .i64 o2, .int .i64 o3]] w fun e w' => e = .returned (.bool true) ∧ Below w.heap.size w w' := by
  have H0 := Lib.hid h
  have HG0 := Lib.hid hg
  clear h hg
  go_enter Try.func3, Try.ntmps3
  go_wp2_with fail
  have hx0 : Whole (((w.alloc (.cells #[.slice A n c, .slice B m k, .slice C g gc] 28)).alloc (.cells #[.int .i64 d1, .int .i64 d2, .int .i64 d3] 32)).alloc (.cells #[.int .i64 v1, .int .i64 v2, .int .i64 a1, .int .i64 a2, .int .i64 a3, .int .i64 p1, .int .i64 p2, .int .i64 p3, .int .i64 o1, .int .i64 o2, .int .i64 o3] 38)) (w.heap.size) 28 [.slice A n c, .slice B m k, .slice C g gc] := (((Whole.new_ w 28 [.slice A n c, .slice B m k, .slice C g gc]).alloc (.cells #[.int .i64 d1, .int .i64 d2, .int .i64 d3] 32)).alloc (.cells #[.int .i64 v1, .int .i64 v2, .int .i64 a1, .int .i64 a2, .int .i64 a3, .int .i64 p1, .int .i64 p2, .int .i64 p3, .int .i64 o1, .int .i64 o2, .int .i64 o3] 38))
  have hx1 : Whole (((w.alloc (.cells #[.slice A n c, .slice B m k, .slice C g gc] 28)).alloc (.cells #[.int .i64 d1, .int .i64 d2, .int .i64 d3] 32)).alloc (.cells #[.int .i64 v1, .int .i64 v2, .int .i64 a1, .int .i64 a2, .int .i64 a3, .int .i64 p1, .int .i64 p2, .int .i64 p3, .int .i64 o1, .int .i64 o2, .int .i64 o3] 38)) (w.heap.size + 1) 32 [.int .i64 d1, .int .i64 d2, .int .i64 d3] := ((Whole.new2 (w := (w.alloc (.cells #[.slice A n c, .slice B m k, .slice C g gc] 28))) (by simp)).alloc (.cells #[.int .i64 v1, .int .i64 v2, .int .i64 a1, .int .i64 a2, .int .i64 a3, .int .i64 p1, .int .i64 p2, .int .i64 p3, .int .i64 o1, .int .i64 o2, .int .i64 o3] 38))
  have hx2 : Whole (((w.alloc (.cells #[.slice A n c, .slice B m k, .slice C g gc] 28)).alloc (.cells #[.int .i64 d1, .int .i64 d2, .int .i64 d3] 32)).alloc (.cells #[.int .i64 v1, .int .i64 v2, .int .i64 a1, .int .i64 a2, .int .i64 a3, .int .i64 p1, .int .i64 p2, .int .i64 p3, .int .i64 o1, .int .i64 o2, .int .i64 o3] 38)) (w.heap.size + 1 + 1) 38 [.int .i64 v1, .int .i64 v2, .int .i64 a1, .int .i64 a2, .int .i64 a3, .int .i64 p1, .int .i64 p2, .int .i64 p3, .int .i64 o1, .int .i64 o2, .int .i64 o3] := (Whole.new2 (w := ((w.alloc (.cells #[.slice A n c, .slice B m k, .slice C g gc] 28)).alloc (.cells #[.int .i64 d1, .int .i64 d2, .int .i64 d3] 32))) (by simp))
  have hbl : Below w.heap.size w (((w.alloc (.cells #[.slice A n c, .slice B m k, .slice C g gc] 28)).alloc (.cells #[.int .i64 d1, .int .i64 d2, .int .i64 d3] 32)).alloc (.cells #[.int .i64 v1, .int .i64 v2, .int .i64 a1, .int .i64 a2, .int .i64 a3, .int .i64 p1, .int .i64 p2, .int .i64 p3, .int .i64 o1, .int .i64 o2, .int .i64 o3] 38)) := (bel_al (bel_al (below1 w (.cells #[.slice A n c, .slice B m k, .slice C g gc] 28)) (.cells #[.int .i64 d1, .int .i64 d2, .int .i64 d3] 32)) (.cells #[.int .i64 v1, .int .i64 v2, .int .i64 a1, .int .i64 a2, .int .i64 a3, .int .i64 p1, .int .i64 p2, .int .i64 p3, .int .i64 o1, .int .i64 o2, .int .i64 o3] 38))
  have hsz : w.heap.size + 1 + 1 + 1 ≤ ((((w.alloc (.cells #[.slice A n c, .slice B m k, .slice C g gc] 28)).alloc (.cells #[.int .i64 d1, .int .i64 d2, .int .i64 d3] 32)).alloc (.cells #[.int .i64 v1, .int .i64 v2, .int .i64 a1, .int .i64 a2, .int .i64 a3, .int .i64 p1, .int .i64 p2, .int .i64 p3, .int .i64 o1, .int .i64 o2, .int .i64 o3] 38))).heap.size := by simp
  obtain ⟨W0, gW0⟩ : ∃ z, (((w.alloc (.cells #[.slice A n c, .slice B m k, .slice C g gc] 28)).alloc (.cells #[.int .i64 d1, .int .i64 d2, .int .i64 d3] 32)).alloc (.cells #[.int .i64 v1, .int .i64 v2, .int .i64 a1, .int .i64 a2, .int .i64 a3, .int .i64 p1, .int .i64 p2, .int .i64 p3, .int .i64 o1, .int .i64 o2, .int .i64 o3] 38)) = z := ⟨_, rfl⟩
  rw [gW0] at hx0 hx1 hx2 hbl hsz
  obtain ⟨b2, gb2⟩ : ∃ z, w.heap.size + 1 + 1 = z := ⟨_, rfl⟩
  rw [gb2] at hx2
  obtain ⟨b1, gb1⟩ : ∃ z, w.heap.size + 1 = z := ⟨_, rfl⟩
  rw [gb1] at hx1
  obtain ⟨b0, gb0⟩ : ∃ z, w.heap.size = z := ⟨_, rfl⟩
  rw [gb0] at hx0
  have HX0 := Lib.hid hx0
  have HX1 := Lib.hid hx1
  have HX2 := Lib.hid hx2
  have HB0 := Lib.hid hbl
  have HS0 := Lib.hid hsz
  have Gb0 := Lib.hid gb0
  have Lb0 : RowKit.Hid (w.heap.size ≤ b0) := Lib.hid (by omega)
  have Gb1 := Lib.hid gb1
  have Lb1 : RowKit.Hid (w.heap.size ≤ b1) := Lib.hid (by omega)
  have Gb2 := Lib.hid gb2
  have Lb2 : RowKit.Hid (w.heap.size ≤ b2) := Lib.hid (by omega)
  have N01 : RowKit.Hid (b0 ≠ b1) := Lib.hid (by omega)
  have N02 : RowKit.Hid (b0 ≠ b2) := Lib.hid (by omega)
  have N12 : RowKit.Hid (b1 ≠ b2) := Lib.hid (by omega)
  rw [gW0, gb2, gb1, gb0]
  clear gW0 hbl hsz hx0 hx1 hx2 gb0 gb1 gb2
  refine (shown11_any W0).mono ?_
  rintro e w1 ⟨rfl, hb1⟩
  have HB1 := Lib.hid (bel_bl HB0.out hb1)
  have HY0 := Lib.hid (HX0.out.below hb1)
  have HY1 := Lib.hid (HX1.out.below hb1)
  have HY2 := Lib.hid (HX2.out.below hb1)
  have HS1 : RowKit.Hid (b0 < w1.heap.size) := Lib.hid HY0.out.lt
  have c0 := HY0.out.cell (i := 0) rfl
  have c1 := HY0.out.cell (i := 1) rfl
  have c2 := HY0.out.cell (i := 2) rfl
  clear hb1 HB0 HS0 HX0 HX1 HX2
  go_wp2_with fail
  refine (few11_step H0.out HG0.out hn hm hgl HB1.out Lb0.out HS1.out).mono ?_
  rintro e w2 ⟨A', n', c', B', m', k', C', g', gc', rfl, hd2, hg2, hg410, hb2⟩
  have HB2 := Lib.hid (bel_bl HB1.out hb2)
  have HZ0 := Lib.hid (HY0.out.below hb2)
  have HZ1 := Lib.hid (HY1.out.below hb2)
  have HZ2 := Lib.hid (HY2.out.below hb2)
  have k0 := HZ0.out.cell (i := 0) rfl
  have k1 := HZ0.out.cell (i := 1) rfl
  have k2 := HZ0.out.cell (i := 2) rfl
  have f0 := HZ0.out.free 0
  have f1 := HZ0.out.free 1
  have f2 := HZ0.out.free 2
  have HD2 := Lib.hid hd2
  have HG2 := Lib.hid hg2
  have HV410 := Lib.hid hg410
  clear hb2 hd2 hg2 hg410 c0 c1 c2 HB1 HS1 H0 HG0 HY0 HY1 HY2
  go_wp2_with fail
  have HD3 := Lib.hid (((HD2.out.set 0 (.slice A' n' c')).set 1 (.slice B' m' k')).set 2 (.slice C' g' gc'))
  have HG3 := Lib.hid (((HG2.out.set 0 (.slice A' n' c')).set 1 (.slice B' m' k')).set 2 (.slice C' g' gc'))
  have HQ0 := Lib.hid (((HZ0.out.set_ 0 (.slice A' n' c')).set_ 1 (.slice B' m' k')).set_ 2 (.slice C' g' gc'))
  have HQ1 := Lib.hid (((HZ1.out.set_far' (i := 0) (fun e => N01.out e.symm) (.slice A' n' c')).set_far' (i := 1) (fun e => N01.out e.symm) (.slice B' m' k')).set_far' (i := 2) (fun e => N01.out e.symm) (.slice C' g' gc'))
  have HQ2 := Lib.hid (((HZ2.out.set_far' (i := 0) (fun e => N02.out e.symm) (.slice A' n' c')).set_far' (i := 1) (fun e => N02.out e.symm) (.slice B' m' k')).set_far' (i := 2) (fun e => N02.out e.symm) (.slice C' g' gc'))
  have HB3 := Lib.hid (((HB2.out.setCell (p := ⟨b0, 0, none⟩) Lb0.out (.slice A' n' c')).setCell (p := ⟨b0, 1, none⟩) Lb0.out (.slice B' m' k')).setCell (p := ⟨b0, 2, none⟩) Lb0.out (.slice C' g' gc'))
  obtain ⟨W3, gW3⟩ : ∃ z, (((w2.setCell ⟨b0, 0, none⟩ (.slice A' n' c')).setCell ⟨b0, 1, none⟩ (.slice B' m' k')).setCell ⟨b0, 2, none⟩ (.slice C' g' gc')) = z := ⟨_, rfl⟩
  rw [gW3] at HD3 HG3 HB3 HQ0 HQ1 HQ2 ⊢
  clear gW3 k0 k1 k2 f0 f1 f2 HD2 HG2 HB2 HZ0 HZ1 HZ2
  refine (rising_step HG3.out HV410.out HQ0.out.lt).mono ?_
  rintro e w4 ⟨C2, g2, gc2, rfl, hg4, hg5, hl4, hb4⟩
  have HB4 := Lib.hid (bel_bl HB3.out hb4)
  have HD4 := Lib.hid (HD3.out.below hb4)
  have HR0 := Lib.hid (HQ0.out.below hb4)
  have HR1 := Lib.hid (HQ1.out.below hb4)
  have HR2 := Lib.hid (HQ2.out.below hb4)
  have HG4 := Lib.hid hg4
  have m2 := HR0.out.cell (i := 2) rfl
  have fm2 := HR0.out.free 2
  have Hl4 := Lib.hid hl4
  have Hg5 := Lib.hid hg5
  clear hb4 hg4 hg5 hl4 HD3 HG3 HB3 HV410 HQ0 HQ1 HQ2
  go_upto_if 37 with fail
  have HD5 := Lib.hid (HD4.out.set 2 (.slice C2 g2 gc2))
  have HG5 := Lib.hid (HG4.out.set 2 (.slice C2 g2 gc2))
  have HT0 := Lib.hid (HR0.out.set_ 2 (.slice C2 g2 gc2))
  have HT1 := Lib.hid (HR1.out.set_far' (i := 2) (fun e => N01.out e.symm) (.slice C2 g2 gc2))
  have HT2 := Lib.hid (HR2.out.set_far' (i := 2) (fun e => N02.out e.symm) (.slice C2 g2 gc2))
  have HB5 := Lib.hid (HB4.out.setCell (p := ⟨b0, 2, none⟩) Lb0.out (.slice C2 g2 gc2))
  obtain ⟨W5, gW5⟩ : ∃ z, (w4.setCell ⟨b0, 2, none⟩ (.slice C2 g2 gc2)) = z := ⟨_, rfl⟩
  rw [gW5] at HD5 HG5 HB5 HT0 HT1 HT2 ⊢
  clear gW5 m2 fm2 HD4 HG4 HB4 HR0 HR1 HR2
  go_cut [] (fun z => ∃ g3, StIn z b0 A' n' c' (fewVs Vs) B' m' k' (Es.take 42) C2 g3 gc2 ((risG (G.take 410)).take 390) ∧ Below w.heap.size w z ∧ Whole z b1 32 [.int .i64 d1, .int .i64 d2, .int .i64 d3] ∧ Whole z b2 38 [.int .i64 v1, .int .i64 v2, .int .i64 a1, .int .i64 a2, .int .i64 a3, .int .i64 p1, .int .i64 p2, .int .i64 p3, .int .i64 o1, .int .i64 o2, .int .i64 o3])
  case first =>
    have e2 := HT0.out.cell (i := 2) rfl
    have fe2 := HT0.out.free 2
    by_cases h390 : 390 < g2
    · have q1 : decide ((390 : Int) < (g2 : Int)) = true := decide_eq_true (by omega)
      have q3 : decide (390 < g2) = true := decide_eq_true h390
      have q2 : 390 ≤ gc2 := by have := HG5.out.gn.le; omega
      have HD6 := Lib.hid (HD5.out.set 2 (.slice C2 390 gc2))
      have HG6 := Lib.hid ((HG5.out.take 390 (by omega)).set 2 (.slice C2 390 gc2))
      have HT6 := Lib.hid (HT0.out.set_ 2 (.slice C2 390 gc2))
      have HB6 := Lib.hid (HB5.out.setCell (p := ⟨b0, 2, none⟩) Lb0.out (.slice C2 390 gc2))
      have HT6_1 := Lib.hid (HT1.out.set_far' (i := 2) (fun e => N01.out e.symm) (.slice C2 390 gc2))
      have HT6_2 := Lib.hid (HT2.out.set_far' (i := 2) (fun e => N02.out e.symm) (.slice C2 390 gc2))
      clear HD5 HG5 HB5 HT0 HT1 HT2
      go_wp2_with fail
      go_meet
      exact ⟨390, ⟨HD6.out.dg, HG6.out.gn, HT6.out, HD6.out.n26, HD6.out.r82, Nat.le_refl _⟩, HB6.out, HT6_1.out, HT6_2.out⟩
    · have q1 : decide ((390 : Int) < (g2 : Int)) = false := decide_eq_false (by omega)
      have q3 : decide (390 < g2) = false := decide_eq_false h390
      have HN : RowKit.Hid (g2 ≤ 390) := Lib.hid (by omega)
      go_wp2_with fail
      go_meet
      exact ⟨g2, ⟨HD5.out.dg, by rw [List.take_of_length_le (by rw [Hl4.out]; exact HN.out)]; exact HG5.out.gn, HT0.out, HD5.out.n26, HD5.out.r82, HN.out⟩, HB5.out, HT1.out, HT2.out⟩
  case rest =>
    clear HD5 HG5 HB5 Hl4 Hg5 HT0 HT1 HT2
    obtain ⟨g3, hS, hB, hX1, hX2⟩ := hcut
    obtain ⟨V, gV⟩ : ∃ z, fewVs Vs = z := ⟨_, rfl⟩
    obtain ⟨E, gE⟩ : ∃ z, Es.take 42 = z := ⟨_, rfl⟩
    obtain ⟨GG, gGG⟩ : ∃ z, (risG (G.take 410)).take 390 = z := ⟨_, rfl⟩
    rw [gV, gE, gGG] at hS
    have HS := Lib.hid hS
    have HB := Lib.hid hB
    have HRi : RowKit.Hid (Rises GG) := Lib.hid (gGG ▸ rises_take _ 390 (rises_ris (G.take 410) [] trivial))
    have HX1 := Lib.hid hX1
    have HX2 := Lib.hid hX2
    clear hS hB gV gE gGG hX1 hX2
    have hst := res_stays V GG g3 (d1, d2, d3)
    obtain ⟨⟨r1, r2, r3⟩, grs⟩ : ∃ z, resG (stV V) GG g3 (d1, d2, d3) = z := ⟨_, rfl⟩
    rw [grs] at hst
    have Hrs := Lib.hid grs
    obtain ⟨sr, gsr⟩ : ∃ z, stV V (r1, r2, r3) = z := ⟨_, rfl⟩
    have Hsr := Lib.hid gsr
    clear grs gsr
    have s0 := HS.out.box.cell (i := 0) rfl
    have s1 := HS.out.box.cell (i := 1) rfl
    have s2 := HS.out.box.cell (i := 2) rfl
    have cHX10 := HX1.out.cell (i := 0) rfl
    have cHX11 := HX1.out.cell (i := 1) rfl
    have cHX12 := HX1.out.cell (i := 2) rfl
    have cHX20 := HX2.out.cell (i := 0) rfl
    have cHX21 := HX2.out.cell (i := 1) rfl
    have cHX22 := HX2.out.cell (i := 2) rfl
    have cHX23 := HX2.out.cell (i := 3) rfl
    have cHX24 := HX2.out.cell (i := 4) rfl
    have cHX25 := HX2.out.cell (i := 5) rfl
    have cHX26 := HX2.out.cell (i := 6) rfl
    have cHX27 := HX2.out.cell (i := 7) rfl
    have cHX28 := HX2.out.cell (i := 8) rfl
    have cHX29 := HX2.out.cell (i := 9) rfl
    have cHX210 := HX2.out.cell (i := 10) rfl
    go_wp2_with fail
    clear s0 s1 s2 cHX10 cHX11 cHX12 cHX20 cHX21 cHX22 cHX23 cHX24 cHX25 cHX26 cHX27 cHX28 cHX29 cHX210
    refine (HS.out.res5 Hrs.out).mono ?_
    rintro e w1_x ⟨rfl, hb1_x⟩
    have HS_1 := Lib.hid ((HS.out.below hb1_x).below (below1 w1_x (.cells #[.int .i64 r1, .int .i64 r2, .int .i64 r3] 32)))
    have HB_1 := Lib.hid (bel_al (bel_bl HB.out hb1_x) (.cells #[.int .i64 r1, .int .i64 r2, .int .i64 r3] 32))
    have HX1_1 := Lib.hid ((HX1.out.below hb1_x).below (below1 w1_x (.cells #[.int .i64 r1, .int .i64 r2, .int .i64 r3] 32)))
    have HX2_1 := Lib.hid ((HX2.out.below hb1_x).below (below1 w1_x (.cells #[.int .i64 r1, .int .i64 r2, .int .i64 r3] 32)))
    have HR_1 : RowKit.Hid (Whole (w1_x.alloc (.cells #[.int .i64 r1, .int .i64 r2, .int .i64 r3] 32)) w1_x.heap.size 32 [.int .i64 r1, .int .i64 r2, .int .i64 r3]) := Lib.hid (Whole.new_ _ _ _)
    clear hb1_x HS HB HX1 HX2
    have s0 := HS_1.out.box.cell (i := 0) rfl
    have s1 := HS_1.out.box.cell (i := 1) rfl
    have s2 := HS_1.out.box.cell (i := 2) rfl
    have cHX10 := HX1_1.out.cell (i := 0) rfl
    have cHX11 := HX1_1.out.cell (i := 1) rfl
    have cHX12 := HX1_1.out.cell (i := 2) rfl
    have cHX20 := HX2_1.out.cell (i := 0) rfl
    have cHX21 := HX2_1.out.cell (i := 1) rfl
    have cHX22 := HX2_1.out.cell (i := 2) rfl
    have cHX23 := HX2_1.out.cell (i := 3) rfl
    have cHX24 := HX2_1.out.cell (i := 4) rfl
    have cHX25 := HX2_1.out.cell (i := 5) rfl
    have cHX26 := HX2_1.out.cell (i := 6) rfl
    have cHX27 := HX2_1.out.cell (i := 7) rfl
    have cHX28 := HX2_1.out.cell (i := 8) rfl
    have cHX29 := HX2_1.out.cell (i := 9) rfl
    have cHX210 := HX2_1.out.cell (i := 10) rfl
    have cHR0 := HR_1.out.cell (i := 0) rfl
    have cHR1 := HR_1.out.cell (i := 1) rfl
    have cHR2 := HR_1.out.cell (i := 2) rfl
    go_wp2_with fail
    clear s0 s1 s2 cHX10 cHX11 cHX12 cHX20 cHX21 cHX22 cHX23 cHX24 cHX25 cHX26 cHX27 cHX28 cHX29 cHX210 cHR0 cHR1 cHR2
    refine (HS_1.out.rat5 Hsr.out).mono ?_
    rintro e w2_x ⟨j1, j2, rfl, hb2_x⟩
    have HS_2 := Lib.hid ((HS_1.out.below hb2_x).below (below1 w2_x (.cells #[.int .i64 j1, .int .i64 j2] 30)))
    have HB_2 := Lib.hid (bel_al (bel_bl HB_1.out hb2_x) (.cells #[.int .i64 j1, .int .i64 j2] 30))
    have HX1_2 := Lib.hid ((HX1_1.out.below hb2_x).below (below1 w2_x (.cells #[.int .i64 j1, .int .i64 j2] 30)))
    have HX2_2 := Lib.hid ((HX2_1.out.below hb2_x).below (below1 w2_x (.cells #[.int .i64 j1, .int .i64 j2] 30)))
    have HR_2 := Lib.hid ((HR_1.out.below hb2_x).below (below1 w2_x (.cells #[.int .i64 j1, .int .i64 j2] 30)))
    have HA_2 : RowKit.Hid (Whole (w2_x.alloc (.cells #[.int .i64 j1, .int .i64 j2] 30)) w2_x.heap.size 30 [.int .i64 j1, .int .i64 j2]) := Lib.hid (Whole.new_ _ _ _)
    clear hb2_x HS_1 HB_1 HX1_1 HX2_1 HR_1
    have s0 := HS_2.out.box.cell (i := 0) rfl
    have s1 := HS_2.out.box.cell (i := 1) rfl
    have s2 := HS_2.out.box.cell (i := 2) rfl
    have cHX10 := HX1_2.out.cell (i := 0) rfl
    have cHX11 := HX1_2.out.cell (i := 1) rfl
    have cHX12 := HX1_2.out.cell (i := 2) rfl
    have cHX20 := HX2_2.out.cell (i := 0) rfl
    have cHX21 := HX2_2.out.cell (i := 1) rfl
    have cHX22 := HX2_2.out.cell (i := 2) rfl
    have cHX23 := HX2_2.out.cell (i := 3) rfl
    have cHX24 := HX2_2.out.cell (i := 4) rfl
    have cHX25 := HX2_2.out.cell (i := 5) rfl
    have cHX26 := HX2_2.out.cell (i := 6) rfl
    have cHX27 := HX2_2.out.cell (i := 7) rfl
    have cHX28 := HX2_2.out.cell (i := 8) rfl
    have cHX29 := HX2_2.out.cell (i := 9) rfl
    have cHX210 := HX2_2.out.cell (i := 10) rfl
    have cHR0 := HR_2.out.cell (i := 0) rfl
    have cHR1 := HR_2.out.cell (i := 1) rfl
    have cHR2 := HR_2.out.cell (i := 2) rfl
    have cHA0 := HA_2.out.cell (i := 0) rfl
    have cHA1 := HA_2.out.cell (i := 1) rfl
    go_upto_region 8 with fail
    clear s0 s1 s2 cHX10 cHX11 cHX12 cHX20 cHX21 cHX22 cHX23 cHX24 cHX25 cHX26 cHX27 cHX28 cHX29 cHX210 cHR0 cHR1 cHR2 cHA0 cHA1
    obtain ⟨gR, ggR⟩ : ∃ z, w1_x.heap.size = z := ⟨_, rfl⟩
    rw [ggR] at HR_2 ⊢
    clear ggR
    go_cut [65] (fun v z => v = .bool false ∧ StIn z b0 A' n' c' V B' m' k' E C2 g3 gc2 GG ∧ Below w.heap.size w z ∧ Whole z b1 32 [.int .i64 d1, .int .i64 d2, .int .i64 d3] ∧ Whole z b2 38 [.int .i64 v1, .int .i64 v2, .int .i64 a1, .int .i64 a2, .int .i64 a3, .int .i64 p1, .int .i64 p2, .int .i64 p3, .int .i64 o1, .int .i64 o2, .int .i64 o3] ∧ Whole z gR 32 [.int .i64 r1, .int .i64 r2, .int .i64 r3])
    case first => as_aux_lemma =>
      rcases hst with hz | ⟨hs1, hs2⟩
      · simp only [zD, Prod.mk.injEq] at hz
        obtain ⟨rfl, rfl, rfl⟩ := hz
        obtain ⟨Wd, gWd⟩ : ∃ z, (w2_x.alloc (.cells #[.int .i64 j1, .int .i64 j2] 30)) = z := ⟨_, rfl⟩
        rw [gWd] at HS_2 HB_2 HX1_2 HX2_2 HR_2 HA_2 ⊢
        clear gWd
        have ls0 : ∀ w', Kept Nil_ Wd.drew w' → w'.cell? ⟨b0, 0, none⟩ = some (.slice A' n' c') := fun w' h => h.nil_cell (HS_2.out.box.dr.cell (i := 0) rfl)
        have ls1 : ∀ w', Kept Nil_ Wd.drew w' → w'.cell? ⟨b0, 1, none⟩ = some (.slice B' m' k') := fun w' h => h.nil_cell (HS_2.out.box.dr.cell (i := 1) rfl)
        have ls2 : ∀ w', Kept Nil_ Wd.drew w' → w'.cell? ⟨b0, 2, none⟩ = some (.slice C2 g3 gc2) := fun w' h => h.nil_cell (HS_2.out.box.dr.cell (i := 2) rfl)
        have lHX10 : ∀ w', Kept Nil_ Wd.drew w' → w'.cell? ⟨b1, 0, none⟩ = some (.int .i64 d1) := fun w' h => h.nil_cell (HX1_2.out.dr.cell (i := 0) rfl)
        have lHX11 : ∀ w', Kept Nil_ Wd.drew w' → w'.cell? ⟨b1, 1, none⟩ = some (.int .i64 d2) := fun w' h => h.nil_cell (HX1_2.out.dr.cell (i := 1) rfl)
        have lHX12 : ∀ w', Kept Nil_ Wd.drew w' → w'.cell? ⟨b1, 2, none⟩ = some (.int .i64 d3) := fun w' h => h.nil_cell (HX1_2.out.dr.cell (i := 2) rfl)
        have lHX20 : ∀ w', Kept Nil_ Wd.drew w' → w'.cell? ⟨b2, 0, none⟩ = some (.int .i64 v1) := fun w' h => h.nil_cell (HX2_2.out.dr.cell (i := 0) rfl)
        have lHX21 : ∀ w', Kept Nil_ Wd.drew w' → w'.cell? ⟨b2, 1, none⟩ = some (.int .i64 v2) := fun w' h => h.nil_cell (HX2_2.out.dr.cell (i := 1) rfl)
        have lHX22 : ∀ w', Kept Nil_ Wd.drew w' → w'.cell? ⟨b2, 2, none⟩ = some (.int .i64 a1) := fun w' h => h.nil_cell (HX2_2.out.dr.cell (i := 2) rfl)
        have lHX23 : ∀ w', Kept Nil_ Wd.drew w' → w'.cell? ⟨b2, 3, none⟩ = some (.int .i64 a2) := fun w' h => h.nil_cell (HX2_2.out.dr.cell (i := 3) rfl)
        have lHX24 : ∀ w', Kept Nil_ Wd.drew w' → w'.cell? ⟨b2, 4, none⟩ = some (.int .i64 a3) := fun w' h => h.nil_cell (HX2_2.out.dr.cell (i := 4) rfl)
        have lHX25 : ∀ w', Kept Nil_ Wd.drew w' → w'.cell? ⟨b2, 5, none⟩ = some (.int .i64 p1) := fun w' h => h.nil_cell (HX2_2.out.dr.cell (i := 5) rfl)
        have lHX26 : ∀ w', Kept Nil_ Wd.drew w' → w'.cell? ⟨b2, 6, none⟩ = some (.int .i64 p2) := fun w' h => h.nil_cell (HX2_2.out.dr.cell (i := 6) rfl)
        have lHX27 : ∀ w', Kept Nil_ Wd.drew w' → w'.cell? ⟨b2, 7, none⟩ = some (.int .i64 p3) := fun w' h => h.nil_cell (HX2_2.out.dr.cell (i := 7) rfl)
        have lHX28 : ∀ w', Kept Nil_ Wd.drew w' → w'.cell? ⟨b2, 8, none⟩ = some (.int .i64 o1) := fun w' h => h.nil_cell (HX2_2.out.dr.cell (i := 8) rfl)
        have lHX29 : ∀ w', Kept Nil_ Wd.drew w' → w'.cell? ⟨b2, 9, none⟩ = some (.int .i64 o2) := fun w' h => h.nil_cell (HX2_2.out.dr.cell (i := 9) rfl)
        have lHX210 : ∀ w', Kept Nil_ Wd.drew w' → w'.cell? ⟨b2, 10, none⟩ = some (.int .i64 o3) := fun w' h => h.nil_cell (HX2_2.out.dr.cell (i := 10) rfl)
        have lHR0 : ∀ w', Kept Nil_ Wd.drew w' → w'.cell? ⟨gR, 0, none⟩ = some (.int .i64 0) := fun w' h => h.nil_cell (HR_2.out.dr.cell (i := 0) rfl)
        have lHR1 : ∀ w', Kept Nil_ Wd.drew w' → w'.cell? ⟨gR, 1, none⟩ = some (.int .i64 0) := fun w' h => h.nil_cell (HR_2.out.dr.cell (i := 1) rfl)
        have lHR2 : ∀ w', Kept Nil_ Wd.drew w' → w'.cell? ⟨gR, 2, none⟩ = some (.int .i64 0) := fun w' h => h.nil_cell (HR_2.out.dr.cell (i := 2) rfl)
        have lHA0 : ∀ w', Kept Nil_ Wd.drew w' → w'.cell? ⟨w2_x.heap.size, 0, none⟩ = some (.int .i64 j1) := fun w' h => h.nil_cell (HA_2.out.dr.cell (i := 0) rfl)
        have lHA1 : ∀ w', Kept Nil_ Wd.drew w' → w'.cell? ⟨w2_x.heap.size, 1, none⟩ = some (.int .i64 j2) := fun w' h => h.nil_cell (HA_2.out.dr.cell (i := 1) rfl)
        have HKb : RowKit.Hid (∀ w', Kept Nil_ Wd.drew w' → Below Wd.heap.size Wd w') := Lib.hid (fun w' h => bel_bl (bel_dr (Below.refl _ _)) (h.below (Nat.le_refl _) (fun _ _ h => h)))
        have hnq := neq_dart_self 0 0 0
        refine wp_region_reg (Nil_) (by kernel_rfl) ?_
        apply wpR_next 0 (some 52)
        · simp only [List.getElem?_toArray, List.getElem?_cons_succ, List.getElem?_cons_zero]; exact rfl
        · rfl
        · kernel_rfl
        · kernel_rfl
        · kernel_rfl
        · exact fun _ _ _ _ h => h
        apply Exists.intro
        apply And.intro
        · apply yr_run; rfl; intro w' hw'; go_simp; (try with_reducible rfl)
        simp only [Act.put, List.setIfInBounds_toArray, List.set_cons_zero, List.set_cons_succ]
        apply wpR_next 1 (some 53)
        · simp only [List.getElem?_toArray, List.getElem?_cons_succ, List.getElem?_cons_zero]; exact rfl
        · rfl
        · kernel_rfl
        · kernel_rfl
        · kernel_rfl
        · exact fun _ _ _ _ h => h
        apply Exists.intro
        apply And.intro
        · apply yr_run; rfl; intro w' hw'; go_simp; (try with_reducible rfl)
        simp only [Act.put, List.setIfInBounds_toArray, List.set_cons_zero, List.set_cons_succ]
        apply wpR_next 2 (some 54)
        · simp only [List.getElem?_toArray, List.getElem?_cons_succ, List.getElem?_cons_zero]; exact rfl
        · rfl
        · kernel_rfl
        · kernel_rfl
        · kernel_rfl
        · exact fun _ _ _ _ h => h
        apply Exists.intro
        apply And.intro
        · exact yr_run (by rfl) (fun w' hw' => exec_binop_agg .neq 32 (.tmp 52) (.tmp 53) 32 rfl rfl rfl (by kernel_rfl) (hnq w'))
        simp only [Act.put, List.setIfInBounds_toArray, List.set_cons_zero, List.set_cons_succ]
        apply wpR_next 3 (some 55)
        · simp only [List.getElem?_toArray, List.getElem?_cons_succ, List.getElem?_cons_zero]; exact rfl
        · rfl
        · kernel_rfl
        · kernel_rfl
        · kernel_rfl
        · exact fun _ _ _ _ h => h
        apply Exists.intro
        apply And.intro
        · apply yr_run; rfl; intro w' hw'; go_simp; (try with_reducible rfl)
        simp only [Act.put, List.setIfInBounds_toArray, List.set_cons_zero, List.set_cons_succ]
        apply wpR_next 4 (some 56)
        · simp only [List.getElem?_toArray, List.getElem?_cons_succ, List.getElem?_cons_zero]; exact rfl
        · rfl
        · kernel_rfl
        · kernel_rfl
        · kernel_rfl
        · exact fun _ _ _ _ h => h
        apply Exists.intro
        apply And.intro
        · exact yr_skip (by rfl)
        simp only [Act.put, List.setIfInBounds_toArray, List.set_cons_zero, List.set_cons_succ]
        apply wpR_next 5 (some 57)
        · simp only [List.getElem?_toArray, List.getElem?_cons_succ, List.getElem?_cons_zero]; exact rfl
        · rfl
        · kernel_rfl
        · kernel_rfl
        · kernel_rfl
        · exact fun _ _ _ _ h => h
        apply Exists.intro
        apply And.intro
        · exact yr_skip (by rfl)
        simp only [Act.put, List.setIfInBounds_toArray, List.set_cons_zero, List.set_cons_succ]
        apply wpR_next 6 (some 58)
        · simp only [List.getElem?_toArray, List.getElem?_cons_succ, List.getElem?_cons_zero]; exact rfl
        · rfl
        · kernel_rfl
        · kernel_rfl
        · kernel_rfl
        · exact fun _ _ _ _ h => h
        apply Exists.intro
        apply And.intro
        · exact yr_skip (by rfl)
        simp only [Act.put, List.setIfInBounds_toArray, List.set_cons_zero, List.set_cons_succ]
        apply wpR_next 7 (some 59)
        · simp only [List.getElem?_toArray, List.getElem?_cons_succ, List.getElem?_cons_zero]; exact rfl
        · rfl
        · kernel_rfl
        · kernel_rfl
        · kernel_rfl
        · exact fun _ _ _ _ h => h
        apply Exists.intro
        apply And.intro
        · exact yr_skip (by rfl)
        simp only [Act.put, List.setIfInBounds_toArray, List.set_cons_zero, List.set_cons_succ]
        apply wpR_next 8 (some 60)
        · simp only [List.getElem?_toArray, List.getElem?_cons_succ, List.getElem?_cons_zero]; exact rfl
        · rfl
        · kernel_rfl
        · kernel_rfl
        · kernel_rfl
        · exact fun _ _ _ _ h => h
        apply Exists.intro
        apply And.intro
        · exact yr_skip (by rfl)
        simp only [Act.put, List.setIfInBounds_toArray, List.set_cons_zero, List.set_cons_succ]
        apply wpR_next 9 (some 61)
        · simp only [List.getElem?_toArray, List.getElem?_cons_succ, List.getElem?_cons_zero]; exact rfl
        · rfl
        · kernel_rfl
        · kernel_rfl
        · kernel_rfl
        · exact fun _ _ _ _ h => h
        apply Exists.intro
        apply And.intro
        · exact yr_skip (by rfl)
        simp only [Act.put, List.setIfInBounds_toArray, List.set_cons_zero, List.set_cons_succ]
        apply wpR_next 10 (some 62)
        · simp only [List.getElem?_toArray, List.getElem?_cons_succ, List.getElem?_cons_zero]; exact rfl
        · rfl
        · kernel_rfl
        · kernel_rfl
        · kernel_rfl
        · exact fun _ _ _ _ h => h
        apply Exists.intro
        apply And.intro
        · exact yr_skip (by rfl)
        simp only [Act.put, List.setIfInBounds_toArray, List.set_cons_zero, List.set_cons_succ]
        apply wpR_next 11 (some 63)
        · simp only [List.getElem?_toArray, List.getElem?_cons_succ, List.getElem?_cons_zero]; exact rfl
        · rfl
        · kernel_rfl
        · kernel_rfl
        · kernel_rfl
        · exact fun _ _ _ _ h => h
        apply Exists.intro
        apply And.intro
        · exact yr_skip (by rfl)
        simp only [Act.put, List.setIfInBounds_toArray, List.set_cons_zero, List.set_cons_succ]
        apply wpR_next 12 (some 64)
        · simp only [List.getElem?_toArray, List.getElem?_cons_succ, List.getElem?_cons_zero]; exact rfl
        · rfl
        · kernel_rfl
        · kernel_rfl
        · kernel_rfl
        · exact fun _ _ _ _ h => h
        apply Exists.intro
        apply And.intro
        · exact yr_skip (by rfl)
        simp only [Act.put, List.setIfInBounds_toArray, List.set_cons_zero, List.set_cons_succ]
        apply wpR_next 13 (some 65)
        · simp only [List.getElem?_toArray, List.getElem?_cons_succ, List.getElem?_cons_zero]; exact rfl
        · rfl
        · kernel_rfl
        · kernel_rfl
        · kernel_rfl
        · exact fun _ _ _ _ h => h
        apply Exists.intro
        apply And.intro
        · apply yr_run; rfl; intro w' hw'; go_simp; (try with_reducible rfl)
        simp only [Act.put, List.setIfInBounds_toArray, List.set_cons_zero, List.set_cons_succ]
        refine wpR_done (by kernel_rfl) ?_ _
        intro W3 hw3
        have hw4 := bel_bl (bel_dr (Below.refl Wd.heap.size Wd)) hw3
        have HS_r8 := Lib.hid (HS_2.out.below hw4)
        have HB_r8 := Lib.hid (bel_bl HB_2.out hw4)
        have HX1_r8 := Lib.hid (HX1_2.out.below hw4)
        have HX2_r8 := Lib.hid (HX2_2.out.below hw4)
        have HR_r8 := Lib.hid (HR_2.out.below hw4)
        have HA_r8 := Lib.hid (HA_2.out.below hw4)
        clear hw3 hw4 ls0 ls1 ls2 lHX10 lHX11 lHX12 lHX20 lHX21 lHX22 lHX23 lHX24 lHX25 lHX26 lHX27 lHX28 lHX29 lHX210 lHR0 lHR1 lHR2 lHA0 lHA1 HS_2 HB_2 HX1_2 HX2_2 HR_2 HA_2 HKb
        go_wp2
        go_meet
        exact ⟨rfl, HS_r8.out, HB_r8.out, HX1_r8.out, HX2_r8.out, HR_r8.out⟩
      · have Hrr := Lib.hid hs2
        obtain rfl : sr = true := by rw [← Hsr.out]; exact hs1
        by_cases hrz : ((r1, r2, r3) : D) = (0, 0, 0)
        · simp only [Prod.mk.injEq] at hrz
          obtain ⟨rfl, rfl, rfl⟩ := hrz
          obtain ⟨Wd, gWd⟩ : ∃ z, (w2_x.alloc (.cells #[.int .i64 j1, .int .i64 j2] 30)) = z := ⟨_, rfl⟩
          rw [gWd] at HS_2 HB_2 HX1_2 HX2_2 HR_2 HA_2 ⊢
          clear gWd
          have ls0 : ∀ w', Kept Nil_ Wd.drew w' → w'.cell? ⟨b0, 0, none⟩ = some (.slice A' n' c') := fun w' h => h.nil_cell (HS_2.out.box.dr.cell (i := 0) rfl)
          have ls1 : ∀ w', Kept Nil_ Wd.drew w' → w'.cell? ⟨b0, 1, none⟩ = some (.slice B' m' k') := fun w' h => h.nil_cell (HS_2.out.box.dr.cell (i := 1) rfl)
          have ls2 : ∀ w', Kept Nil_ Wd.drew w' → w'.cell? ⟨b0, 2, none⟩ = some (.slice C2 g3 gc2) := fun w' h => h.nil_cell (HS_2.out.box.dr.cell (i := 2) rfl)
          have lHX10 : ∀ w', Kept Nil_ Wd.drew w' → w'.cell? ⟨b1, 0, none⟩ = some (.int .i64 d1) := fun w' h => h.nil_cell (HX1_2.out.dr.cell (i := 0) rfl)
          have lHX11 : ∀ w', Kept Nil_ Wd.drew w' → w'.cell? ⟨b1, 1, none⟩ = some (.int .i64 d2) := fun w' h => h.nil_cell (HX1_2.out.dr.cell (i := 1) rfl)
          have lHX12 : ∀ w', Kept Nil_ Wd.drew w' → w'.cell? ⟨b1, 2, none⟩ = some (.int .i64 d3) := fun w' h => h.nil_cell (HX1_2.out.dr.cell (i := 2) rfl)
          have lHX20 : ∀ w', Kept Nil_ Wd.drew w' → w'.cell? ⟨b2, 0, none⟩ = some (.int .i64 v1) := fun w' h => h.nil_cell (HX2_2.out.dr.cell (i := 0) rfl)
          have lHX21 : ∀ w', Kept Nil_ Wd.drew w' → w'.cell? ⟨b2, 1, none⟩ = some (.int .i64 v2) := fun w' h => h.nil_cell (HX2_2.out.dr.cell (i := 1) rfl)
          have lHX22 : ∀ w', Kept Nil_ Wd.drew w' → w'.cell? ⟨b2, 2, none⟩ = some (.int .i64 a1) := fun w' h => h.nil_cell (HX2_2.out.dr.cell (i := 2) rfl)
          have lHX23 : ∀ w', Kept Nil_ Wd.drew w' → w'.cell? ⟨b2, 3, none⟩ = some (.int .i64 a2) := fun w' h => h.nil_cell (HX2_2.out.dr.cell (i := 3) rfl)
          have lHX24 : ∀ w', Kept Nil_ Wd.drew w' → w'.cell? ⟨b2, 4, none⟩ = some (.int .i64 a3) := fun w' h => h.nil_cell (HX2_2.out.dr.cell (i := 4) rfl)
          have lHX25 : ∀ w', Kept Nil_ Wd.drew w' → w'.cell? ⟨b2, 5, none⟩ = some (.int .i64 p1) := fun w' h => h.nil_cell (HX2_2.out.dr.cell (i := 5) rfl)
          have lHX26 : ∀ w', Kept Nil_ Wd.drew w' → w'.cell? ⟨b2, 6, none⟩ = some (.int .i64 p2) := fun w' h => h.nil_cell (HX2_2.out.dr.cell (i := 6) rfl)
          have lHX27 : ∀ w', Kept Nil_ Wd.drew w' → w'.cell? ⟨b2, 7, none⟩ = some (.int .i64 p3) := fun w' h => h.nil_cell (HX2_2.out.dr.cell (i := 7) rfl)
          have lHX28 : ∀ w', Kept Nil_ Wd.drew w' → w'.cell? ⟨b2, 8, none⟩ = some (.int .i64 o1) := fun w' h => h.nil_cell (HX2_2.out.dr.cell (i := 8) rfl)
          have lHX29 : ∀ w', Kept Nil_ Wd.drew w' → w'.cell? ⟨b2, 9, none⟩ = some (.int .i64 o2) := fun w' h => h.nil_cell (HX2_2.out.dr.cell (i := 9) rfl)
          have lHX210 : ∀ w', Kept Nil_ Wd.drew w' → w'.cell? ⟨b2, 10, none⟩ = some (.int .i64 o3) := fun w' h => h.nil_cell (HX2_2.out.dr.cell (i := 10) rfl)
          have lHR0 : ∀ w', Kept Nil_ Wd.drew w' → w'.cell? ⟨gR, 0, none⟩ = some (.int .i64 0) := fun w' h => h.nil_cell (HR_2.out.dr.cell (i := 0) rfl)
          have lHR1 : ∀ w', Kept Nil_ Wd.drew w' → w'.cell? ⟨gR, 1, none⟩ = some (.int .i64 0) := fun w' h => h.nil_cell (HR_2.out.dr.cell (i := 1) rfl)
          have lHR2 : ∀ w', Kept Nil_ Wd.drew w' → w'.cell? ⟨gR, 2, none⟩ = some (.int .i64 0) := fun w' h => h.nil_cell (HR_2.out.dr.cell (i := 2) rfl)
          have lHA0 : ∀ w', Kept Nil_ Wd.drew w' → w'.cell? ⟨w2_x.heap.size, 0, none⟩ = some (.int .i64 j1) := fun w' h => h.nil_cell (HA_2.out.dr.cell (i := 0) rfl)
          have lHA1 : ∀ w', Kept Nil_ Wd.drew w' → w'.cell? ⟨w2_x.heap.size, 1, none⟩ = some (.int .i64 j2) := fun w' h => h.nil_cell (HA_2.out.dr.cell (i := 1) rfl)
          have HKb : RowKit.Hid (∀ w', Kept Nil_ Wd.drew w' → Below Wd.heap.size Wd w') := Lib.hid (fun w' h => bel_bl (bel_dr (Below.refl _ _)) (h.below (Nat.le_refl _) (fun _ _ h => h)))
          have hnq := neq_dart_self 0 0 0
          refine wp_region_reg (Nil_) (by kernel_rfl) ?_
          apply wpR_next 0 (some 52)
          · simp only [List.getElem?_toArray, List.getElem?_cons_succ, List.getElem?_cons_zero]; exact rfl
          · rfl
          · kernel_rfl
          · kernel_rfl
          · kernel_rfl
          · exact fun _ _ _ _ h => h
          apply Exists.intro
          apply And.intro
          · apply yr_run; rfl; intro w' hw'; go_simp; (try with_reducible rfl)
          simp only [Act.put, List.setIfInBounds_toArray, List.set_cons_zero, List.set_cons_succ]
          apply wpR_next 1 (some 53)
          · simp only [List.getElem?_toArray, List.getElem?_cons_succ, List.getElem?_cons_zero]; exact rfl
          · rfl
          · kernel_rfl
          · kernel_rfl
          · kernel_rfl
          · exact fun _ _ _ _ h => h
          apply Exists.intro
          apply And.intro
          · apply yr_run; rfl; intro w' hw'; go_simp; (try with_reducible rfl)
          simp only [Act.put, List.setIfInBounds_toArray, List.set_cons_zero, List.set_cons_succ]
          apply wpR_next 2 (some 54)
          · simp only [List.getElem?_toArray, List.getElem?_cons_succ, List.getElem?_cons_zero]; exact rfl
          · rfl
          · kernel_rfl
          · kernel_rfl
          · kernel_rfl
          · exact fun _ _ _ _ h => h
          apply Exists.intro
          apply And.intro
          · exact yr_run (by rfl) (fun w' hw' => exec_binop_agg .neq 32 (.tmp 52) (.tmp 53) 32 rfl rfl rfl (by kernel_rfl) (hnq w'))
          simp only [Act.put, List.setIfInBounds_toArray, List.set_cons_zero, List.set_cons_succ]
          apply wpR_next 3 (some 55)
          · simp only [List.getElem?_toArray, List.getElem?_cons_succ, List.getElem?_cons_zero]; exact rfl
          · rfl
          · kernel_rfl
          · kernel_rfl
          · kernel_rfl
          · exact fun _ _ _ _ h => h
          apply Exists.intro
          apply And.intro
          · apply yr_run; rfl; intro w' hw'; go_simp; (try with_reducible rfl)
          simp only [Act.put, List.setIfInBounds_toArray, List.set_cons_zero, List.set_cons_succ]
          apply wpR_next 4 (some 56)
          · simp only [List.getElem?_toArray, List.getElem?_cons_succ, List.getElem?_cons_zero]; exact rfl
          · rfl
          · kernel_rfl
          · kernel_rfl
          · kernel_rfl
          · exact fun _ _ _ _ h => h
          apply Exists.intro
          apply And.intro
          · exact yr_skip (by rfl)
          simp only [Act.put, List.setIfInBounds_toArray, List.set_cons_zero, List.set_cons_succ]
          apply wpR_next 5 (some 57)
          · simp only [List.getElem?_toArray, List.getElem?_cons_succ, List.getElem?_cons_zero]; exact rfl
          · rfl
          · kernel_rfl
          · kernel_rfl
          · kernel_rfl
          · exact fun _ _ _ _ h => h
          apply Exists.intro
          apply And.intro
          · exact yr_skip (by rfl)
          simp only [Act.put, List.setIfInBounds_toArray, List.set_cons_zero, List.set_cons_succ]
          apply wpR_next 6 (some 58)
          · simp only [List.getElem?_toArray, List.getElem?_cons_succ, List.getElem?_cons_zero]; exact rfl
          · rfl
          · kernel_rfl
          · kernel_rfl
          · kernel_rfl
          · exact fun _ _ _ _ h => h
          apply Exists.intro
          apply And.intro
          · exact yr_skip (by rfl)
          simp only [Act.put, List.setIfInBounds_toArray, List.set_cons_zero, List.set_cons_succ]
          apply wpR_next 7 (some 59)
          · simp only [List.getElem?_toArray, List.getElem?_cons_succ, List.getElem?_cons_zero]; exact rfl
          · rfl
          · kernel_rfl
          · kernel_rfl
          · kernel_rfl
          · exact fun _ _ _ _ h => h
          apply Exists.intro
          apply And.intro
          · exact yr_skip (by rfl)
          simp only [Act.put, List.setIfInBounds_toArray, List.set_cons_zero, List.set_cons_succ]
          apply wpR_next 8 (some 60)
          · simp only [List.getElem?_toArray, List.getElem?_cons_succ, List.getElem?_cons_zero]; exact rfl
          · rfl
          · kernel_rfl
          · kernel_rfl
          · kernel_rfl
          · exact fun _ _ _ _ h => h
          apply Exists.intro
          apply And.intro
          · exact yr_skip (by rfl)
          simp only [Act.put, List.setIfInBounds_toArray, List.set_cons_zero, List.set_cons_succ]
          apply wpR_next 9 (some 61)
          · simp only [List.getElem?_toArray, List.getElem?_cons_succ, List.getElem?_cons_zero]; exact rfl
          · rfl
          · kernel_rfl
          · kernel_rfl
          · kernel_rfl
          · exact fun _ _ _ _ h => h
          apply Exists.intro
          apply And.intro
          · exact yr_skip (by rfl)
          simp only [Act.put, List.setIfInBounds_toArray, List.set_cons_zero, List.set_cons_succ]
          apply wpR_next 10 (some 62)
          · simp only [List.getElem?_toArray, List.getElem?_cons_succ, List.getElem?_cons_zero]; exact rfl
          · rfl
          · kernel_rfl
          · kernel_rfl
          · kernel_rfl
          · exact fun _ _ _ _ h => h
          apply Exists.intro
          apply And.intro
          · exact yr_skip (by rfl)
          simp only [Act.put, List.setIfInBounds_toArray, List.set_cons_zero, List.set_cons_succ]
          apply wpR_next 11 (some 63)
          · simp only [List.getElem?_toArray, List.getElem?_cons_succ, List.getElem?_cons_zero]; exact rfl
          · rfl
          · kernel_rfl
          · kernel_rfl
          · kernel_rfl
          · exact fun _ _ _ _ h => h
          apply Exists.intro
          apply And.intro
          · exact yr_skip (by rfl)
          simp only [Act.put, List.setIfInBounds_toArray, List.set_cons_zero, List.set_cons_succ]
          apply wpR_next 12 (some 64)
          · simp only [List.getElem?_toArray, List.getElem?_cons_succ, List.getElem?_cons_zero]; exact rfl
          · rfl
          · kernel_rfl
          · kernel_rfl
          · kernel_rfl
          · exact fun _ _ _ _ h => h
          apply Exists.intro
          apply And.intro
          · exact yr_skip (by rfl)
          simp only [Act.put, List.setIfInBounds_toArray, List.set_cons_zero, List.set_cons_succ]
          apply wpR_next 13 (some 65)
          · simp only [List.getElem?_toArray, List.getElem?_cons_succ, List.getElem?_cons_zero]; exact rfl
          · rfl
          · kernel_rfl
          · kernel_rfl
          · kernel_rfl
          · exact fun _ _ _ _ h => h
          apply Exists.intro
          apply And.intro
          · apply yr_run; rfl; intro w' hw'; go_simp; (try with_reducible rfl)
          simp only [Act.put, List.setIfInBounds_toArray, List.set_cons_zero, List.set_cons_succ]
          refine wpR_done (by kernel_rfl) ?_ _
          intro W3 hw3
          have hw4 := bel_bl (bel_dr (Below.refl Wd.heap.size Wd)) hw3
          have HS_r8 := Lib.hid (HS_2.out.below hw4)
          have HB_r8 := Lib.hid (bel_bl HB_2.out hw4)
          have HX1_r8 := Lib.hid (HX1_2.out.below hw4)
          have HX2_r8 := Lib.hid (HX2_2.out.below hw4)
          have HR_r8 := Lib.hid (HR_2.out.below hw4)
          have HA_r8 := Lib.hid (HA_2.out.below hw4)
          clear hw3 hw4 ls0 ls1 ls2 lHX10 lHX11 lHX12 lHX20 lHX21 lHX22 lHX23 lHX24 lHX25 lHX26 lHX27 lHX28 lHX29 lHX210 lHR0 lHR1 lHR2 lHA0 lHA1 HS_2 HB_2 HX1_2 HX2_2 HR_2 HA_2 HKb
          go_wp2
          go_meet
          exact ⟨rfl, HS_r8.out, HB_r8.out, HX1_r8.out, HX2_r8.out, HR_r8.out⟩
        · clear hs1 hs2
          obtain ⟨Wd, gWd⟩ : ∃ z, (w2_x.alloc (.cells #[.int .i64 j1, .int .i64 j2] 30)) = z := ⟨_, rfl⟩
          rw [gWd] at HS_2 HB_2 HX1_2 HX2_2 HR_2 HA_2 ⊢
          clear gWd
          have ls0 : ∀ w', Kept Nil_ Wd.drew w' → w'.cell? ⟨b0, 0, none⟩ = some (.slice A' n' c') := fun w' h => h.nil_cell (HS_2.out.box.dr.cell (i := 0) rfl)
          have ls1 : ∀ w', Kept Nil_ Wd.drew w' → w'.cell? ⟨b0, 1, none⟩ = some (.slice B' m' k') := fun w' h => h.nil_cell (HS_2.out.box.dr.cell (i := 1) rfl)
          have ls2 : ∀ w', Kept Nil_ Wd.drew w' → w'.cell? ⟨b0, 2, none⟩ = some (.slice C2 g3 gc2) := fun w' h => h.nil_cell (HS_2.out.box.dr.cell (i := 2) rfl)
          have lHX10 : ∀ w', Kept Nil_ Wd.drew w' → w'.cell? ⟨b1, 0, none⟩ = some (.int .i64 d1) := fun w' h => h.nil_cell (HX1_2.out.dr.cell (i := 0) rfl)
          have lHX11 : ∀ w', Kept Nil_ Wd.drew w' → w'.cell? ⟨b1, 1, none⟩ = some (.int .i64 d2) := fun w' h => h.nil_cell (HX1_2.out.dr.cell (i := 1) rfl)
          have lHX12 : ∀ w', Kept Nil_ Wd.drew w' → w'.cell? ⟨b1, 2, none⟩ = some (.int .i64 d3) := fun w' h => h.nil_cell (HX1_2.out.dr.cell (i := 2) rfl)
          have lHX20 : ∀ w', Kept Nil_ Wd.drew w' → w'.cell? ⟨b2, 0, none⟩ = some (.int .i64 v1) := fun w' h => h.nil_cell (HX2_2.out.dr.cell (i := 0) rfl)
          have lHX21 : ∀ w', Kept Nil_ Wd.drew w' → w'.cell? ⟨b2, 1, none⟩ = some (.int .i64 v2) := fun w' h => h.nil_cell (HX2_2.out.dr.cell (i := 1) rfl)
          have lHX22 : ∀ w', Kept Nil_ Wd.drew w' → w'.cell? ⟨b2, 2, none⟩ = some (.int .i64 a1) := fun w' h => h.nil_cell (HX2_2.out.dr.cell (i := 2) rfl)
          have lHX23 : ∀ w', Kept Nil_ Wd.drew w' → w'.cell? ⟨b2, 3, none⟩ = some (.int .i64 a2) := fun w' h => h.nil_cell (HX2_2.out.dr.cell (i := 3) rfl)
          have lHX24 : ∀ w', Kept Nil_ Wd.drew w' → w'.cell? ⟨b2, 4, none⟩ = some (.int .i64 a3) := fun w' h => h.nil_cell (HX2_2.out.dr.cell (i := 4) rfl)
          have lHX25 : ∀ w', Kept Nil_ Wd.drew w' → w'.cell? ⟨b2, 5, none⟩ = some (.int .i64 p1) := fun w' h => h.nil_cell (HX2_2.out.dr.cell (i := 5) rfl)
          have lHX26 : ∀ w', Kept Nil_ Wd.drew w' → w'.cell? ⟨b2, 6, none⟩ = some (.int .i64 p2) := fun w' h => h.nil_cell (HX2_2.out.dr.cell (i := 6) rfl)
          have lHX27 : ∀ w', Kept Nil_ Wd.drew w' → w'.cell? ⟨b2, 7, none⟩ = some (.int .i64 p3) := fun w' h => h.nil_cell (HX2_2.out.dr.cell (i := 7) rfl)
          have lHX28 : ∀ w', Kept Nil_ Wd.drew w' → w'.cell? ⟨b2, 8, none⟩ = some (.int .i64 o1) := fun w' h => h.nil_cell (HX2_2.out.dr.cell (i := 8) rfl)
          have lHX29 : ∀ w', Kept Nil_ Wd.drew w' → w'.cell? ⟨b2, 9, none⟩ = some (.int .i64 o2) := fun w' h => h.nil_cell (HX2_2.out.dr.cell (i := 9) rfl)
          have lHX210 : ∀ w', Kept Nil_ Wd.drew w' → w'.cell? ⟨b2, 10, none⟩ = some (.int .i64 o3) := fun w' h => h.nil_cell (HX2_2.out.dr.cell (i := 10) rfl)
          have lHR0 : ∀ w', Kept Nil_ Wd.drew w' → w'.cell? ⟨gR, 0, none⟩ = some (.int .i64 r1) := fun w' h => h.nil_cell (HR_2.out.dr.cell (i := 0) rfl)
          have lHR1 : ∀ w', Kept Nil_ Wd.drew w' → w'.cell? ⟨gR, 1, none⟩ = some (.int .i64 r2) := fun w' h => h.nil_cell (HR_2.out.dr.cell (i := 1) rfl)
          have lHR2 : ∀ w', Kept Nil_ Wd.drew w' → w'.cell? ⟨gR, 2, none⟩ = some (.int .i64 r3) := fun w' h => h.nil_cell (HR_2.out.dr.cell (i := 2) rfl)
          have lHA0 : ∀ w', Kept Nil_ Wd.drew w' → w'.cell? ⟨w2_x.heap.size, 0, none⟩ = some (.int .i64 j1) := fun w' h => h.nil_cell (HA_2.out.dr.cell (i := 0) rfl)
          have lHA1 : ∀ w', Kept Nil_ Wd.drew w' → w'.cell? ⟨w2_x.heap.size, 1, none⟩ = some (.int .i64 j2) := fun w' h => h.nil_cell (HA_2.out.dr.cell (i := 1) rfl)
          have HKb : RowKit.Hid (∀ w', Kept Nil_ Wd.drew w' → Below Wd.heap.size Wd w') := Lib.hid (fun w' h => bel_bl (bel_dr (Below.refl _ _)) (h.below (Nat.le_refl _) (fun _ _ h => h)))
          have hnq := neq_dart_not (a' := 0) (b' := 0) (c' := 0) hrz
          have hns := neq_dart_self r1 r2 r3
          refine wp_region_reg (Nil_) (by kernel_rfl) ?_
          apply wpR_next 0 (some 52)
          · simp only [List.getElem?_toArray, List.getElem?_cons_succ, List.getElem?_cons_zero]; exact rfl
          · rfl
          · kernel_rfl
          · kernel_rfl
          · kernel_rfl
          · exact fun _ _ _ _ h => h
          apply Exists.intro
          apply And.intro
          · apply yr_run; rfl; intro w' hw'; go_simp; (try with_reducible rfl)
          simp only [Act.put, List.setIfInBounds_toArray, List.set_cons_zero, List.set_cons_succ]
          apply wpR_next 1 (some 53)
          · simp only [List.getElem?_toArray, List.getElem?_cons_succ, List.getElem?_cons_zero]; exact rfl
          · rfl
          · kernel_rfl
          · kernel_rfl
          · kernel_rfl
          · exact fun _ _ _ _ h => h
          apply Exists.intro
          apply And.intro
          · apply yr_run; rfl; intro w' hw'; go_simp; (try with_reducible rfl)
          simp only [Act.put, List.setIfInBounds_toArray, List.set_cons_zero, List.set_cons_succ]
          apply wpR_next 2 (some 54)
          · simp only [List.getElem?_toArray, List.getElem?_cons_succ, List.getElem?_cons_zero]; exact rfl
          · rfl
          · kernel_rfl
          · kernel_rfl
          · kernel_rfl
          · exact fun _ _ _ _ h => h
          apply Exists.intro
          apply And.intro
          · exact yr_run (by rfl) (fun w' hw' => exec_binop_agg .neq 32 (.tmp 52) (.tmp 53) 32 rfl rfl rfl (by kernel_rfl) (hnq w'))
          simp only [Act.put, List.setIfInBounds_toArray, List.set_cons_zero, List.set_cons_succ]
          apply wpR_next 3 (some 55)
          · simp only [List.getElem?_toArray, List.getElem?_cons_succ, List.getElem?_cons_zero]; exact rfl
          · rfl
          · kernel_rfl
          · kernel_rfl
          · kernel_rfl
          · exact fun _ _ _ _ h => h
          apply Exists.intro
          apply And.intro
          · apply yr_run; rfl; intro w' hw'; go_simp; (try with_reducible rfl)
          simp only [Act.put, List.setIfInBounds_toArray, List.set_cons_zero, List.set_cons_succ]
          apply wpR_next 4 (some 56)
          · simp only [List.getElem?_toArray, List.getElem?_cons_succ, List.getElem?_cons_zero]; exact rfl
          · rfl
          · kernel_rfl
          · kernel_rfl
          · kernel_rfl
          · exact fun _ _ _ _ h => h
          apply Exists.intro
          apply And.intro
          · apply yr_run; rfl; intro w' hw'; go_simp; (try with_reducible rfl)
          simp only [Act.put, List.setIfInBounds_toArray, List.set_cons_zero, List.set_cons_succ]
          apply wpR_next 5 (some 57)
          · simp only [List.getElem?_toArray, List.getElem?_cons_succ, List.getElem?_cons_zero]; exact rfl
          · rfl
          · kernel_rfl
          · kernel_rfl
          · kernel_rfl
          · exact fun _ _ _ _ h => h
          apply Exists.intro
          apply And.intro
          · apply yr_run; rfl; intro w' hw'; go_simp; (try with_reducible rfl)
          simp only [Act.put, List.setIfInBounds_toArray, List.set_cons_zero, List.set_cons_succ]
          apply wpR_next 6 (some 58)
          · simp only [List.getElem?_toArray, List.getElem?_cons_succ, List.getElem?_cons_zero]; exact rfl
          · rfl
          · kernel_rfl
          · kernel_rfl
          · kernel_rfl
          · exact fun _ _ _ _ h => h
          apply Exists.intro
          apply And.intro
          · apply yr_run; rfl; intro w' hw'; go_simp; (try with_reducible rfl)
          simp only [Act.put, List.setIfInBounds_toArray, List.set_cons_zero, List.set_cons_succ]
          apply wpR_next 7 (some 59)
          · simp only [List.getElem?_toArray, List.getElem?_cons_succ, List.getElem?_cons_zero]; exact rfl
          · rfl
          · kernel_rfl
          · kernel_rfl
          · kernel_rfl
          · exact fun _ _ _ _ h => h
          apply Exists.intro
          apply And.intro
          · apply yr_run; rfl; intro w' hw'; go_simp; (try with_reducible rfl)
          simp only [Act.put, List.setIfInBounds_toArray, List.set_cons_zero, List.set_cons_succ]
          apply wpR_next 8 (some 60)
          · simp only [List.getElem?_toArray, List.getElem?_cons_succ, List.getElem?_cons_zero]; exact rfl
          · rfl
          · kernel_rfl
          · kernel_rfl
          · kernel_rfl
          · exact fun _ _ _ _ h => h
          apply Exists.intro
          apply And.intro
          · apply yr_run; rfl; intro w' hw'; go_simp; (try with_reducible rfl)
          simp only [Act.put, List.setIfInBounds_toArray, List.set_cons_zero, List.set_cons_succ]
          apply wpR_next 9 (some 61)
          · simp only [List.getElem?_toArray, List.getElem?_cons_succ, List.getElem?_cons_zero]; exact rfl
          · rfl
          · kernel_rfl
          · kernel_rfl
          · kernel_rfl
          · exact fun _ _ _ _ h => h
          apply Exists.intro
          apply And.intro
          · apply yr_call; rfl; rotate_left; intro w' hw'; exact (HS_2.out.below (HKb.out w' hw')).res5 Hrr.out; intro w'; go_simp
          simp only [Act.put, List.setIfInBounds_toArray, List.set_cons_zero, List.set_cons_succ]
          apply wpR_next 10 (some 62)
          · simp only [List.getElem?_toArray, List.getElem?_cons_succ, List.getElem?_cons_zero]; exact rfl
          · rfl
          · kernel_rfl
          · kernel_rfl
          · kernel_rfl
          · exact fun _ _ _ _ h => h
          apply Exists.intro
          apply And.intro
          · apply yr_run; rfl; intro w' hw'; go_simp; (try with_reducible rfl)
          simp only [Act.put, List.setIfInBounds_toArray, List.set_cons_zero, List.set_cons_succ]
          apply wpR_next 11 (some 63)
          · simp only [List.getElem?_toArray, List.getElem?_cons_succ, List.getElem?_cons_zero]; exact rfl
          · rfl
          · kernel_rfl
          · kernel_rfl
          · kernel_rfl
          · exact fun _ _ _ _ h => h
          apply Exists.intro
          apply And.intro
          · exact yr_run (by rfl) (fun w' hw' => exec_binop_agg .neq 32 (.tmp 61) (.tmp 62) 32 rfl rfl rfl (by kernel_rfl) (hns w'))
          simp only [Act.put, List.setIfInBounds_toArray, List.set_cons_zero, List.set_cons_succ]
          apply wpR_next 12 (some 64)
          · simp only [List.getElem?_toArray, List.getElem?_cons_succ, List.getElem?_cons_zero]; exact rfl
          · rfl
          · kernel_rfl
          · kernel_rfl
          · kernel_rfl
          · exact fun _ _ _ _ h => h
          apply Exists.intro
          apply And.intro
          · apply yr_run; rfl; intro w' hw'; go_simp; (try with_reducible rfl)
          simp only [Act.put, List.setIfInBounds_toArray, List.set_cons_zero, List.set_cons_succ]
          apply wpR_next 13 (some 65)
          · simp only [List.getElem?_toArray, List.getElem?_cons_succ, List.getElem?_cons_zero]; exact rfl
          · rfl
          · kernel_rfl
          · kernel_rfl
          · kernel_rfl
          · exact fun _ _ _ _ h => h
          apply Exists.intro
          apply And.intro
          · apply yr_run; rfl; intro w' hw'; go_simp; (try with_reducible rfl)
          simp only [Act.put, List.setIfInBounds_toArray, List.set_cons_zero, List.set_cons_succ]
          refine wpR_done (by kernel_rfl) ?_ _
          intro W3 hw3
          have hw4 := bel_bl (bel_dr (Below.refl Wd.heap.size Wd)) hw3
          have HS_r8 := Lib.hid (HS_2.out.below hw4)
          have HB_r8 := Lib.hid (bel_bl HB_2.out hw4)
          have HX1_r8 := Lib.hid (HX1_2.out.below hw4)
          have HX2_r8 := Lib.hid (HX2_2.out.below hw4)
          have HR_r8 := Lib.hid (HR_2.out.below hw4)
          have HA_r8 := Lib.hid (HA_2.out.below hw4)
          clear hw3 hw4 ls0 ls1 ls2 lHX10 lHX11 lHX12 lHX20 lHX21 lHX22 lHX23 lHX24 lHX25 lHX26 lHX27 lHX28 lHX29 lHX210 lHR0 lHR1 lHR2 lHA0 lHA1 HS_2 HB_2 HX1_2 HX2_2 HR_2 HA_2 HKb
          go_wp2
          go_meet
          exact ⟨rfl, HS_r8.out, HB_r8.out, HX1_r8.out, HX2_r8.out, HR_r8.out⟩
    case rest => as_aux_lemma =>
      clear HS_2 HB_2 HX1_2 HX2_2 HR_2 HA_2 hst Hsr
      obtain ⟨rfl, hS, hB, h1, h2, h3⟩ := hcut
      have HS := Lib.hid hS
      have HB := Lib.hid hB
      have HX1 := Lib.hid h1
      have HX2 := Lib.hid h2
      have HR := Lib.hid h3
      clear hS hB h1 h2 h3
      obtain ⟨sd, gsd⟩ : ∃ z, stV V (d1, d2, d3) = z := ⟨_, rfl⟩
      have Hsd := Lib.hid gsd
      clear gsd
      have s0 := HS.out.box.cell (i := 0) rfl
      have s1 := HS.out.box.cell (i := 1) rfl
      have s2 := HS.out.box.cell (i := 2) rfl
      have cHX10 := HX1.out.cell (i := 0) rfl
      have cHX11 := HX1.out.cell (i := 1) rfl
      have cHX12 := HX1.out.cell (i := 2) rfl
      have cHX20 := HX2.out.cell (i := 0) rfl
      have cHX21 := HX2.out.cell (i := 1) rfl
      have cHX22 := HX2.out.cell (i := 2) rfl
      have cHX23 := HX2.out.cell (i := 3) rfl
      have cHX24 := HX2.out.cell (i := 4) rfl
      have cHX25 := HX2.out.cell (i := 5) rfl
      have cHX26 := HX2.out.cell (i := 6) rfl
      have cHX27 := HX2.out.cell (i := 7) rfl
      have cHX28 := HX2.out.cell (i := 8) rfl
      have cHX29 := HX2.out.cell (i := 9) rfl
      have cHX210 := HX2.out.cell (i := 10) rfl
      have cHR0 := HR.out.cell (i := 0) rfl
      have cHR1 := HR.out.cell (i := 1) rfl
      have cHR2 := HR.out.cell (i := 2) rfl
      go_wp2_with fail
      clear s0 s1 s2 cHX10 cHX11 cHX12 cHX20 cHX21 cHX22 cHX23 cHX24 cHX25 cHX26 cHX27 cHX28 cHX29 cHX210 cHR0 cHR1 cHR2
      refine (HS.out.rat5 Hsd.out).mono ?_
      rintro e w11_x ⟨j3, j4, rfl, hb11_x⟩
      have HS_11 := Lib.hid ((HS.out.below hb11_x).below (below1 w11_x (.cells #[.int .i64 j3, .int .i64 j4] 30)))
      have HB_11 := Lib.hid (bel_al (bel_bl HB.out hb11_x) (.cells #[.int .i64 j3, .int .i64 j4] 30))
      have HX1_11 := Lib.hid ((HX1.out.below hb11_x).below (below1 w11_x (.cells #[.int .i64 j3, .int .i64 j4] 30)))
      have HX2_11 := Lib.hid ((HX2.out.below hb11_x).below (below1 w11_x (.cells #[.int .i64 j3, .int .i64 j4] 30)))
      have HR_11 := Lib.hid ((HR.out.below hb11_x).below (below1 w11_x (.cells #[.int .i64 j3, .int .i64 j4] 30)))
      have HQ_11 : RowKit.Hid (Whole (w11_x.alloc (.cells #[.int .i64 j3, .int .i64 j4] 30)) w11_x.heap.size 30 [.int .i64 j3, .int .i64 j4]) := Lib.hid (Whole.new_ _ _ _)
      clear hb11_x HS HB HX1 HX2 HR
      have s0 := HS_11.out.box.cell (i := 0) rfl
      have s1 := HS_11.out.box.cell (i := 1) rfl
      have s2 := HS_11.out.box.cell (i := 2) rfl
      have cHX10 := HX1_11.out.cell (i := 0) rfl
      have cHX11 := HX1_11.out.cell (i := 1) rfl
      have cHX12 := HX1_11.out.cell (i := 2) rfl
      have cHX20 := HX2_11.out.cell (i := 0) rfl
      have cHX21 := HX2_11.out.cell (i := 1) rfl
      have cHX22 := HX2_11.out.cell (i := 2) rfl
      have cHX23 := HX2_11.out.cell (i := 3) rfl
      have cHX24 := HX2_11.out.cell (i := 4) rfl
      have cHX25 := HX2_11.out.cell (i := 5) rfl
      have cHX26 := HX2_11.out.cell (i := 6) rfl
      have cHX27 := HX2_11.out.cell (i := 7) rfl
      have cHX28 := HX2_11.out.cell (i := 8) rfl
      have cHX29 := HX2_11.out.cell (i := 9) rfl
      have cHX210 := HX2_11.out.cell (i := 10) rfl
      have cHR0 := HR_11.out.cell (i := 0) rfl
      have cHR1 := HR_11.out.cell (i := 1) rfl
      have cHR2 := HR_11.out.cell (i := 2) rfl
      have cHQ0 := HQ_11.out.cell (i := 0) rfl
      have cHQ1 := HQ_11.out.cell (i := 1) rfl
      go_upto_region 11 with fail
      clear s0 s1 s2 cHX10 cHX11 cHX12 cHX20 cHX21 cHX22 cHX23 cHX24 cHX25 cHX26 cHX27 cHX28 cHX29 cHX210 cHR0 cHR1 cHR2 cHQ0 cHQ1
      go_cut [78] (fun v z => v = .bool false ∧ StIn z b0 A' n' c' V B' m' k' E C2 g3 gc2 GG ∧ Below w.heap.size w z ∧ Whole z b1 32 [.int .i64 d1, .int .i64 d2, .int .i64 d3] ∧ Whole z b2 38 [.int .i64 v1, .int .i64 v2, .int .i64 a1, .int .i64 a2, .int .i64 a3, .int .i64 p1, .int .i64 p2, .int .i64 p3, .int .i64 o1, .int .i64 o2, .int .i64 o3])
      case first => as_aux_lemma =>
        cases sd with
        | true =>
          have hrd := (resG_self (stV V) GG g3 Hsd.out).symm.trans Hrs.out
          simp only [Prod.mk.injEq] at hrd
          obtain ⟨q1, q2, q3⟩ := hrd
          subst q1 q2 q3
          have hns := neq_dart_self d1 d2 d3
          have s0 := HS_11.out.box.cell (i := 0) rfl
          have s1 := HS_11.out.box.cell (i := 1) rfl
          have s2 := HS_11.out.box.cell (i := 2) rfl
          have cHX10 := HX1_11.out.cell (i := 0) rfl
          have cHX11 := HX1_11.out.cell (i := 1) rfl
          have cHX12 := HX1_11.out.cell (i := 2) rfl
          have cHX20 := HX2_11.out.cell (i := 0) rfl
          have cHX21 := HX2_11.out.cell (i := 1) rfl
          have cHX22 := HX2_11.out.cell (i := 2) rfl
          have cHX23 := HX2_11.out.cell (i := 3) rfl
          have cHX24 := HX2_11.out.cell (i := 4) rfl
          have cHX25 := HX2_11.out.cell (i := 5) rfl
          have cHX26 := HX2_11.out.cell (i := 6) rfl
          have cHX27 := HX2_11.out.cell (i := 7) rfl
          have cHX28 := HX2_11.out.cell (i := 8) rfl
          have cHX29 := HX2_11.out.cell (i := 9) rfl
          have cHX210 := HX2_11.out.cell (i := 10) rfl
          have cHR0 := HR_11.out.cell (i := 0) rfl
          have cHR1 := HR_11.out.cell (i := 1) rfl
          have cHR2 := HR_11.out.cell (i := 2) rfl
          have cHQ0 := HQ_11.out.cell (i := 0) rfl
          have cHQ1 := HQ_11.out.cell (i := 1) rfl
          go_wp2
          clear s0 s1 s2 cHX10 cHX11 cHX12 cHX20 cHX21 cHX22 cHX23 cHX24 cHX25 cHX26 cHX27 cHX28 cHX29 cHX210 cHR0 cHR1 cHR2 cHQ0 cHQ1
          go_meet
          exact ⟨rfl, HS_11.out, HB_11.out, HX1_11.out, HX2_11.out⟩
        | false =>
          have s0 := HS_11.out.box.cell (i := 0) rfl
          have s1 := HS_11.out.box.cell (i := 1) rfl
          have s2 := HS_11.out.box.cell (i := 2) rfl
          have cHX10 := HX1_11.out.cell (i := 0) rfl
          have cHX11 := HX1_11.out.cell (i := 1) rfl
          have cHX12 := HX1_11.out.cell (i := 2) rfl
          have cHX20 := HX2_11.out.cell (i := 0) rfl
          have cHX21 := HX2_11.out.cell (i := 1) rfl
          have cHX22 := HX2_11.out.cell (i := 2) rfl
          have cHX23 := HX2_11.out.cell (i := 3) rfl
          have cHX24 := HX2_11.out.cell (i := 4) rfl
          have cHX25 := HX2_11.out.cell (i := 5) rfl
          have cHX26 := HX2_11.out.cell (i := 6) rfl
          have cHX27 := HX2_11.out.cell (i := 7) rfl
          have cHX28 := HX2_11.out.cell (i := 8) rfl
          have cHX29 := HX2_11.out.cell (i := 9) rfl
          have cHX210 := HX2_11.out.cell (i := 10) rfl
          have cHR0 := HR_11.out.cell (i := 0) rfl
          have cHR1 := HR_11.out.cell (i := 1) rfl
          have cHR2 := HR_11.out.cell (i := 2) rfl
          have cHQ0 := HQ_11.out.cell (i := 0) rfl
          have cHQ1 := HQ_11.out.cell (i := 1) rfl
          go_wp2
          clear s0 s1 s2 cHX10 cHX11 cHX12 cHX20 cHX21 cHX22 cHX23 cHX24 cHX25 cHX26 cHX27 cHX28 cHX29 cHX210 cHR0 cHR1 cHR2 cHQ0 cHQ1
          go_meet
          exact ⟨rfl, HS_11.out, HB_11.out, HX1_11.out, HX2_11.out⟩
      case rest => as_aux_lemma =>
        obtain ⟨rfl, hS, hB, h1, h2⟩ := hcut
        clear Hrs Hsd
        have HS := Lib.hid hS
        have HB := Lib.hid hB
        have HX1 := Lib.hid h1
        have HX2 := Lib.hid h2
        clear hS hB h1 h2
        obtain ⟨⟨⟨t1, t2, t3⟩, tb⟩, gfd⟩ : ∃ z, findG GG (d1, d2, d3) = z := ⟨_, rfl⟩
        obtain ⟨⟨⟨u1, u2, u3⟩, ub⟩, gfl⟩ : ∃ z, findG (addG GG ((p1, p2, p3), (o1, o2, o3))) (d1, d2, d3) = z := ⟨_, rfl⟩
        have Hfd := Lib.hid gfd
        have Hfl := Lib.hid gfl
        clear gfd gfl
        have s0 := HS.out.box.cell (i := 0) rfl
        have s1 := HS.out.box.cell (i := 1) rfl
        have s2 := HS.out.box.cell (i := 2) rfl
        have cHX10 := HX1.out.cell (i := 0) rfl
        have cHX11 := HX1.out.cell (i := 1) rfl
        have cHX12 := HX1.out.cell (i := 2) rfl
        have cHX20 := HX2.out.cell (i := 0) rfl
        have cHX21 := HX2.out.cell (i := 1) rfl
        have cHX22 := HX2.out.cell (i := 2) rfl
        have cHX23 := HX2.out.cell (i := 3) rfl
        have cHX24 := HX2.out.cell (i := 4) rfl
        have cHX25 := HX2.out.cell (i := 5) rfl
        have cHX26 := HX2.out.cell (i := 6) rfl
        have cHX27 := HX2.out.cell (i := 7) rfl
        have cHX28 := HX2.out.cell (i := 8) rfl
        have cHX29 := HX2.out.cell (i := 9) rfl
        have cHX210 := HX2.out.cell (i := 10) rfl
        go_wp2_with fail
        clear s0 s1 s2 cHX10 cHX11 cHX12 cHX20 cHX21 cHX22 cHX23 cHX24 cHX25 cHX26 cHX27 cHX28 cHX29 cHX210
        refine (HS.out.add HRi.out ((p1, p2, p3), (o1, o2, o3))).mono ?_
        rintro e w21_x ⟨A5, N5, c5, hN5, hl5, rfl, hr5, hb21_x⟩
        have hNk : N5 ≤ 1000 := by have := HS.out.g390; omega
        have HS_21 := Lib.hid (HS.out.below hb21_x)
        have HB_21 := Lib.hid (bel_bl HB.out hb21_x)
        have HX1_21 := Lib.hid (HX1.out.below hb21_x)
        have HX2_21 := Lib.hid (HX2.out.below hb21_x)
        have HL_21 := Lib.hid (hr5)
        clear hb21_x HS HB HX1 HX2
        clear hr5
        have s0 := HS_21.out.box.cell (i := 0) rfl
        have s1 := HS_21.out.box.cell (i := 1) rfl
        have s2 := HS_21.out.box.cell (i := 2) rfl
        have cHX10 := HX1_21.out.cell (i := 0) rfl
        have cHX11 := HX1_21.out.cell (i := 1) rfl
        have cHX12 := HX1_21.out.cell (i := 2) rfl
        have cHX20 := HX2_21.out.cell (i := 0) rfl
        have cHX21 := HX2_21.out.cell (i := 1) rfl
        have cHX22 := HX2_21.out.cell (i := 2) rfl
        have cHX23 := HX2_21.out.cell (i := 3) rfl
        have cHX24 := HX2_21.out.cell (i := 4) rfl
        have cHX25 := HX2_21.out.cell (i := 5) rfl
        have cHX26 := HX2_21.out.cell (i := 6) rfl
        have cHX27 := HX2_21.out.cell (i := 7) rfl
        have cHX28 := HX2_21.out.cell (i := 8) rfl
        have cHX29 := HX2_21.out.cell (i := 9) rfl
        have cHX210 := HX2_21.out.cell (i := 10) rfl
        go_wp2_with fail
        clear s0 s1 s2 cHX10 cHX11 cHX12 cHX20 cHX21 cHX22 cHX23 cHX24 cHX25 cHX26 cHX27 cHX28 cHX29 cHX210
        refine (find_in5 HL_21.out hNk (find_added GG ((p1, p2, p3), (o1, o2, o3)))).mono ?_
        rintro e w22_x ⟨rfl, hb22_x⟩
        have HS_22 := Lib.hid ((HS_21.out.below hb22_x).below (below1 w22_x (.cells #[.int .i64 o1, .int .i64 o2, .int .i64 o3] 32)))
        have HB_22 := Lib.hid (bel_al (bel_bl HB_21.out hb22_x) (.cells #[.int .i64 o1, .int .i64 o2, .int .i64 o3] 32))
        have HX1_22 := Lib.hid ((HX1_21.out.below hb22_x).below (below1 w22_x (.cells #[.int .i64 o1, .int .i64 o2, .int .i64 o3] 32)))
        have HX2_22 := Lib.hid ((HX2_21.out.below hb22_x).below (below1 w22_x (.cells #[.int .i64 o1, .int .i64 o2, .int .i64 o3] 32)))
        have HL_22 := Lib.hid ((HL_21.out.bl hb22_x).al (.cells #[.int .i64 o1, .int .i64 o2, .int .i64 o3] 32))
        have HF_22 : RowKit.Hid (Whole (w22_x.alloc (.cells #[.int .i64 o1, .int .i64 o2, .int .i64 o3] 32)) w22_x.heap.size 32 [.int .i64 o1, .int .i64 o2, .int .i64 o3]) := Lib.hid (Whole.new_ _ _ _)
        clear hb22_x HS_21 HB_21 HX1_21 HX2_21 HL_21
        have s0 := HS_22.out.box.cell (i := 0) rfl
        have s1 := HS_22.out.box.cell (i := 1) rfl
        have s2 := HS_22.out.box.cell (i := 2) rfl
        have cHX10 := HX1_22.out.cell (i := 0) rfl
        have cHX11 := HX1_22.out.cell (i := 1) rfl
        have cHX12 := HX1_22.out.cell (i := 2) rfl
        have cHX20 := HX2_22.out.cell (i := 0) rfl
        have cHX21 := HX2_22.out.cell (i := 1) rfl
        have cHX22 := HX2_22.out.cell (i := 2) rfl
        have cHX23 := HX2_22.out.cell (i := 3) rfl
        have cHX24 := HX2_22.out.cell (i := 4) rfl
        have cHX25 := HX2_22.out.cell (i := 5) rfl
        have cHX26 := HX2_22.out.cell (i := 6) rfl
        have cHX27 := HX2_22.out.cell (i := 7) rfl
        have cHX28 := HX2_22.out.cell (i := 8) rfl
        have cHX29 := HX2_22.out.cell (i := 9) rfl
        have cHX210 := HX2_22.out.cell (i := 10) rfl
        have cHF0 := HF_22.out.cell (i := 0) rfl
        have cHF1 := HF_22.out.cell (i := 1) rfl
        have cHF2 := HF_22.out.cell (i := 2) rfl
        go_wp2_with fail
        clear s0 s1 s2 cHX10 cHX11 cHX12 cHX20 cHX21 cHX22 cHX23 cHX24 cHX25 cHX26 cHX27 cHX28 cHX29 cHX210 cHF0 cHF1 cHF2
        refine (HS_22.out.find5 Hfd.out).mono ?_
        rintro e w23_x ⟨rfl, hb23_x⟩
        have HS_23 := Lib.hid ((HS_22.out.below hb23_x).below (below1 w23_x (.cells #[.int .i64 t1, .int .i64 t2, .int .i64 t3] 32)))
        have HB_23 := Lib.hid (bel_al (bel_bl HB_22.out hb23_x) (.cells #[.int .i64 t1, .int .i64 t2, .int .i64 t3] 32))
        have HX1_23 := Lib.hid ((HX1_22.out.below hb23_x).below (below1 w23_x (.cells #[.int .i64 t1, .int .i64 t2, .int .i64 t3] 32)))
        have HX2_23 := Lib.hid ((HX2_22.out.below hb23_x).below (below1 w23_x (.cells #[.int .i64 t1, .int .i64 t2, .int .i64 t3] 32)))
        have HF_23 := Lib.hid ((HF_22.out.below hb23_x).below (below1 w23_x (.cells #[.int .i64 t1, .int .i64 t2, .int .i64 t3] 32)))
        have HL_23 := Lib.hid ((HL_22.out.bl hb23_x).al (.cells #[.int .i64 t1, .int .i64 t2, .int .i64 t3] 32))
        have HG__23 : RowKit.Hid (Whole (w23_x.alloc (.cells #[.int .i64 t1, .int .i64 t2, .int .i64 t3] 32)) w23_x.heap.size 32 [.int .i64 t1, .int .i64 t2, .int .i64 t3]) := Lib.hid (Whole.new_ _ _ _)
        clear hb23_x HS_22 HB_22 HX1_22 HX2_22 HF_22 HL_22
        have s0 := HS_23.out.box.cell (i := 0) rfl
        have s1 := HS_23.out.box.cell (i := 1) rfl
        have s2 := HS_23.out.box.cell (i := 2) rfl
        have cHX10 := HX1_23.out.cell (i := 0) rfl
        have cHX11 := HX1_23.out.cell (i := 1) rfl
        have cHX12 := HX1_23.out.cell (i := 2) rfl
        have cHX20 := HX2_23.out.cell (i := 0) rfl
        have cHX21 := HX2_23.out.cell (i := 1) rfl
        have cHX22 := HX2_23.out.cell (i := 2) rfl
        have cHX23 := HX2_23.out.cell (i := 3) rfl
        have cHX24 := HX2_23.out.cell (i := 4) rfl
        have cHX25 := HX2_23.out.cell (i := 5) rfl
        have cHX26 := HX2_23.out.cell (i := 6) rfl
        have cHX27 := HX2_23.out.cell (i := 7) rfl
        have cHX28 := HX2_23.out.cell (i := 8) rfl
        have cHX29 := HX2_23.out.cell (i := 9) rfl
        have cHX210 := HX2_23.out.cell (i := 10) rfl
        have cHF0 := HF_23.out.cell (i := 0) rfl
        have cHF1 := HF_23.out.cell (i := 1) rfl
        have cHF2 := HF_23.out.cell (i := 2) rfl
        have cHG_0 := HG__23.out.cell (i := 0) rfl
        have cHG_1 := HG__23.out.cell (i := 1) rfl
        have cHG_2 := HG__23.out.cell (i := 2) rfl
        go_wp2_with fail
        clear s0 s1 s2 cHX10 cHX11 cHX12 cHX20 cHX21 cHX22 cHX23 cHX24 cHX25 cHX26 cHX27 cHX28 cHX29 cHX210 cHF0 cHF1 cHF2 cHG_0 cHG_1 cHG_2
        refine (find_in5 HL_23.out hNk Hfl.out).mono ?_
        rintro e w24_x ⟨rfl, hb24_x⟩
        have HS_24 := Lib.hid ((HS_23.out.below hb24_x).below (below1 w24_x (.cells #[.int .i64 u1, .int .i64 u2, .int .i64 u3] 32)))
        have HB_24 := Lib.hid (bel_al (bel_bl HB_23.out hb24_x) (.cells #[.int .i64 u1, .int .i64 u2, .int .i64 u3] 32))
        have HX1_24 := Lib.hid ((HX1_23.out.below hb24_x).below (below1 w24_x (.cells #[.int .i64 u1, .int .i64 u2, .int .i64 u3] 32)))
        have HX2_24 := Lib.hid ((HX2_23.out.below hb24_x).below (below1 w24_x (.cells #[.int .i64 u1, .int .i64 u2, .int .i64 u3] 32)))
        have HF_24 := Lib.hid ((HF_23.out.below hb24_x).below (below1 w24_x (.cells #[.int .i64 u1, .int .i64 u2, .int .i64 u3] 32)))
        have HG__24 := Lib.hid ((HG__23.out.below hb24_x).below (below1 w24_x (.cells #[.int .i64 u1, .int .i64 u2, .int .i64 u3] 32)))
        have HL_24 := Lib.hid ((HL_23.out.bl hb24_x).al (.cells #[.int .i64 u1, .int .i64 u2, .int .i64 u3] 32))
        have HH_24 : RowKit.Hid (Whole (w24_x.alloc (.cells #[.int .i64 u1, .int .i64 u2, .int .i64 u3] 32)) w24_x.heap.size 32 [.int .i64 u1, .int .i64 u2, .int .i64 u3]) := Lib.hid (Whole.new_ _ _ _)
        clear hb24_x HS_23 HB_23 HX1_23 HX2_23 HF_23 HG__23 HL_23
        have s0 := HS_24.out.box.cell (i := 0) rfl
        have s1 := HS_24.out.box.cell (i := 1) rfl
        have s2 := HS_24.out.box.cell (i := 2) rfl
        have cHX10 := HX1_24.out.cell (i := 0) rfl
        have cHX11 := HX1_24.out.cell (i := 1) rfl
        have cHX12 := HX1_24.out.cell (i := 2) rfl
        have cHX20 := HX2_24.out.cell (i := 0) rfl
        have cHX21 := HX2_24.out.cell (i := 1) rfl
        have cHX22 := HX2_24.out.cell (i := 2) rfl
        have cHX23 := HX2_24.out.cell (i := 3) rfl
        have cHX24 := HX2_24.out.cell (i := 4) rfl
        have cHX25 := HX2_24.out.cell (i := 5) rfl
        have cHX26 := HX2_24.out.cell (i := 6) rfl
        have cHX27 := HX2_24.out.cell (i := 7) rfl
        have cHX28 := HX2_24.out.cell (i := 8) rfl
        have cHX29 := HX2_24.out.cell (i := 9) rfl
        have cHX210 := HX2_24.out.cell (i := 10) rfl
        have cHF0 := HF_24.out.cell (i := 0) rfl
        have cHF1 := HF_24.out.cell (i := 1) rfl
        have cHF2 := HF_24.out.cell (i := 2) rfl
        have cHG_0 := HG__24.out.cell (i := 0) rfl
        have cHG_1 := HG__24.out.cell (i := 1) rfl
        have cHG_2 := HG__24.out.cell (i := 2) rfl
        have cHH0 := HH_24.out.cell (i := 0) rfl
        have cHH1 := HH_24.out.cell (i := 1) rfl
        have cHH2 := HH_24.out.cell (i := 2) rfl
        go_upto_region 17 with fail
        clear s0 s1 s2 cHX10 cHX11 cHX12 cHX20 cHX21 cHX22 cHX23 cHX24 cHX25 cHX26 cHX27 cHX28 cHX29 cHX210 cHF0 cHF1 cHF2 cHG_0 cHG_1 cHG_2 cHH0 cHH1 cHH2
        have g1 : IntKind.i64.wrap ((g3 : Int) + 1) = (g3 : Int) + 1 := IntWalk.i64_in _ (by have := HS_24.out.g390; omega)
        have g2 : decide ((g3 : Int) + 1 < (N5 : Int)) = false := decide_eq_false (by omega)
        have g4 : decide (g3 + 1 < N5) = false := decide_eq_false (by omega)
        have g5 : ¬ (g3 + 1 < N5) := by omega
        go_cut [139] (fun v z => v = .bool false ∧ StIn z b0 A' n' c' V B' m' k' E C2 g3 gc2 GG ∧ Below w.heap.size w z ∧ Whole z b1 32 [.int .i64 d1, .int .i64 d2, .int .i64 d3] ∧ Whole z b2 38 [.int .i64 v1, .int .i64 v2, .int .i64 a1, .int .i64 a2, .int .i64 a3, .int .i64 p1, .int .i64 p2, .int .i64 p3, .int .i64 o1, .int .i64 o2, .int .i64 o3])
        case first => as_aux_lemma =>
          by_cases hdp : ((d1, d2, d3) : D) = (p1, p2, p3)
          · have hno := neq_dart_self o1 o2 o3
            have hnd := neq_dart_yes hdp
            have s0 := HS_24.out.box.cell (i := 0) rfl
            have s1 := HS_24.out.box.cell (i := 1) rfl
            have s2 := HS_24.out.box.cell (i := 2) rfl
            have cHX10 := HX1_24.out.cell (i := 0) rfl
            have cHX11 := HX1_24.out.cell (i := 1) rfl
            have cHX12 := HX1_24.out.cell (i := 2) rfl
            have cHX20 := HX2_24.out.cell (i := 0) rfl
            have cHX21 := HX2_24.out.cell (i := 1) rfl
            have cHX22 := HX2_24.out.cell (i := 2) rfl
            have cHX23 := HX2_24.out.cell (i := 3) rfl
            have cHX24 := HX2_24.out.cell (i := 4) rfl
            have cHX25 := HX2_24.out.cell (i := 5) rfl
            have cHX26 := HX2_24.out.cell (i := 6) rfl
            have cHX27 := HX2_24.out.cell (i := 7) rfl
            have cHX28 := HX2_24.out.cell (i := 8) rfl
            have cHX29 := HX2_24.out.cell (i := 9) rfl
            have cHX210 := HX2_24.out.cell (i := 10) rfl
            have cHF0 := HF_24.out.cell (i := 0) rfl
            have cHF1 := HF_24.out.cell (i := 1) rfl
            have cHF2 := HF_24.out.cell (i := 2) rfl
            have cHG_0 := HG__24.out.cell (i := 0) rfl
            have cHG_1 := HG__24.out.cell (i := 1) rfl
            have cHG_2 := HG__24.out.cell (i := 2) rfl
            have cHH0 := HH_24.out.cell (i := 0) rfl
            have cHH1 := HH_24.out.cell (i := 1) rfl
            have cHH2 := HH_24.out.cell (i := 2) rfl
            go_wp2
            clear s0 s1 s2 cHX10 cHX11 cHX12 cHX20 cHX21 cHX22 cHX23 cHX24 cHX25 cHX26 cHX27 cHX28 cHX29 cHX210 cHF0 cHF1 cHF2 cHG_0 cHG_1 cHG_2 cHH0 cHH1 cHH2
            go_meet
            exact ⟨rfl, HS_24.out, HB_24.out, HX1_24.out, HX2_24.out⟩
          · have hff := (Hfl.out.symm.trans (find_others GG ((p1, p2, p3), (o1, o2, o3)) hdp)).trans Hfd.out
            simp only [Prod.mk.injEq] at hff
            obtain ⟨⟨w1, w2, w3⟩, w4⟩ := hff
            subst w1 w2 w3 w4
            have hno := neq_dart_self o1 o2 o3
            have hnd := neq_dart_not hdp
            have hnt := neq_dart_self u1 u2 u3
            have s0 := HS_24.out.box.cell (i := 0) rfl
            have s1 := HS_24.out.box.cell (i := 1) rfl
            have s2 := HS_24.out.box.cell (i := 2) rfl
            have cHX10 := HX1_24.out.cell (i := 0) rfl
            have cHX11 := HX1_24.out.cell (i := 1) rfl
            have cHX12 := HX1_24.out.cell (i := 2) rfl
            have cHX20 := HX2_24.out.cell (i := 0) rfl
            have cHX21 := HX2_24.out.cell (i := 1) rfl
            have cHX22 := HX2_24.out.cell (i := 2) rfl
            have cHX23 := HX2_24.out.cell (i := 3) rfl
            have cHX24 := HX2_24.out.cell (i := 4) rfl
            have cHX25 := HX2_24.out.cell (i := 5) rfl
            have cHX26 := HX2_24.out.cell (i := 6) rfl
            have cHX27 := HX2_24.out.cell (i := 7) rfl
            have cHX28 := HX2_24.out.cell (i := 8) rfl
            have cHX29 := HX2_24.out.cell (i := 9) rfl
            have cHX210 := HX2_24.out.cell (i := 10) rfl
            have cHF0 := HF_24.out.cell (i := 0) rfl
            have cHF1 := HF_24.out.cell (i := 1) rfl
            have cHF2 := HF_24.out.cell (i := 2) rfl
            have cHG_0 := HG__24.out.cell (i := 0) rfl
            have cHG_1 := HG__24.out.cell (i := 1) rfl
            have cHG_2 := HG__24.out.cell (i := 2) rfl
            have cHH0 := HH_24.out.cell (i := 0) rfl
            have cHH1 := HH_24.out.cell (i := 1) rfl
            have cHH2 := HH_24.out.cell (i := 2) rfl
            go_wp2
            clear s0 s1 s2 cHX10 cHX11 cHX12 cHX20 cHX21 cHX22 cHX23 cHX24 cHX25 cHX26 cHX27 cHX28 cHX29 cHX210 cHF0 cHF1 cHF2 cHG_0 cHG_1 cHG_2 cHH0 cHH1 cHH2
            go_meet
            exact ⟨rfl, HS_24.out, HB_24.out, HX1_24.out, HX2_24.out⟩
        case rest => as_aux_lemma =>
          obtain ⟨rfl, hS, hB, h1, h2⟩ := hcut
          clear Hfd Hfl
          have HS := Lib.hid hS
          have HB := Lib.hid hB
          have HX1 := Lib.hid h1
          have HX2 := Lib.hid h2
          clear hS hB h1 h2
          obtain ⟨⟨⟨⟨i1, i2⟩, ⟨rA, rn, rc, rL⟩, lb, at_⟩, ok⟩, gr⟩ : ∃ z, fndV V (v1, v2) = z := ⟨_, rfl⟩
          have Hgr := Lib.hid gr
          clear gr
          cases ok with
          | false =>
            have s0 := HS.out.box.cell (i := 0) rfl
            have s1 := HS.out.box.cell (i := 1) rfl
            have s2 := HS.out.box.cell (i := 2) rfl
            have cHX10 := HX1.out.cell (i := 0) rfl
            have cHX11 := HX1.out.cell (i := 1) rfl
            have cHX12 := HX1.out.cell (i := 2) rfl
            have cHX20 := HX2.out.cell (i := 0) rfl
            have cHX21 := HX2.out.cell (i := 1) rfl
            have cHX22 := HX2.out.cell (i := 2) rfl
            have cHX23 := HX2.out.cell (i := 3) rfl
            have cHX24 := HX2.out.cell (i := 4) rfl
            have cHX25 := HX2.out.cell (i := 5) rfl
            have cHX26 := HX2.out.cell (i := 6) rfl
            have cHX27 := HX2.out.cell (i := 7) rfl
            have cHX28 := HX2.out.cell (i := 8) rfl
            have cHX29 := HX2.out.cell (i := 9) rfl
            have cHX210 := HX2.out.cell (i := 10) rfl
            go_wp2_with fail
            clear s0 s1 s2 cHX10 cHX11 cHX12 cHX20 cHX21 cHX22 cHX23 cHX24 cHX25 cHX26 cHX27 cHX28 cHX29 cHX210
            refine (HS.out.cor_no5 (congrArg Prod.snd Hgr.out)).mono ?_
            rintro e w31_x ⟨rfl, hb31_x⟩
            have HS_31 := Lib.hid ((HS.out.below hb31_x).below (below1 w31_x (.cells #[.int .i64 0, .int .i64 0, .int .i64 0, .int .i64 0, .int .i64 0] 34)))
            have HB_31 := Lib.hid (bel_al (bel_bl HB.out hb31_x) (.cells #[.int .i64 0, .int .i64 0, .int .i64 0, .int .i64 0, .int .i64 0] 34))
            have HX1_31 := Lib.hid ((HX1.out.below hb31_x).below (below1 w31_x (.cells #[.int .i64 0, .int .i64 0, .int .i64 0, .int .i64 0, .int .i64 0] 34)))
            have HX2_31 := Lib.hid ((HX2.out.below hb31_x).below (below1 w31_x (.cells #[.int .i64 0, .int .i64 0, .int .i64 0, .int .i64 0, .int .i64 0] 34)))
            have HC_31 : RowKit.Hid (Whole (w31_x.alloc (.cells #[.int .i64 0, .int .i64 0, .int .i64 0, .int .i64 0, .int .i64 0] 34)) w31_x.heap.size 34 [.int .i64 0, .int .i64 0, .int .i64 0, .int .i64 0, .int .i64 0]) := Lib.hid (Whole.new_ _ _ _)
            clear hb31_x HS HB HX1 HX2
            have heqc := eq_cor_self 0 0 0 0 0
            have s0 := HS_31.out.box.cell (i := 0) rfl
            have s1 := HS_31.out.box.cell (i := 1) rfl
            have s2 := HS_31.out.box.cell (i := 2) rfl
            have cHX10 := HX1_31.out.cell (i := 0) rfl
            have cHX11 := HX1_31.out.cell (i := 1) rfl
            have cHX12 := HX1_31.out.cell (i := 2) rfl
            have cHX20 := HX2_31.out.cell (i := 0) rfl
            have cHX21 := HX2_31.out.cell (i := 1) rfl
            have cHX22 := HX2_31.out.cell (i := 2) rfl
            have cHX23 := HX2_31.out.cell (i := 3) rfl
            have cHX24 := HX2_31.out.cell (i := 4) rfl
            have cHX25 := HX2_31.out.cell (i := 5) rfl
            have cHX26 := HX2_31.out.cell (i := 6) rfl
            have cHX27 := HX2_31.out.cell (i := 7) rfl
            have cHX28 := HX2_31.out.cell (i := 8) rfl
            have cHX29 := HX2_31.out.cell (i := 9) rfl
            have cHX210 := HX2_31.out.cell (i := 10) rfl
            have cHC0 := HC_31.out.cell (i := 0) rfl
            have cHC1 := HC_31.out.cell (i := 1) rfl
            have cHC2 := HC_31.out.cell (i := 2) rfl
            have cHC3 := HC_31.out.cell (i := 3) rfl
            have cHC4 := HC_31.out.cell (i := 4) rfl
            go_wp2
            clear s0 s1 s2 cHX10 cHX11 cHX12 cHX20 cHX21 cHX22 cHX23 cHX24 cHX25 cHX26 cHX27 cHX28 cHX29 cHX210 cHC0 cHC1 cHC2 cHC3 cHC4
            go_ret
            exact ⟨rfl, HB_31.out⟩
          | true =>
            have hns := near_stays (G := GG) (g := g3) Hgr.out (a1, a2, a3)
            obtain ⟨⟨z1, z2, z3⟩, gz⟩ : ∃ z, nearC V GG g3 (v1, v2) (a1, a2, a3) = z := ⟨_, rfl⟩
            rw [gz] at hns
            have Hnr := Lib.hid gz
            clear gz
            by_cases hz0 : ((z1, z2, z3) : D) = (0, 0, 0)
            · clear hns
              simp only [Prod.mk.injEq] at hz0
              obtain ⟨rfl, rfl, rfl⟩ := hz0
              obtain ⟨⟨w1, w2, w3⟩, gw⟩ : ∃ z, nearC V GG g3 (v1, v2) (0, 0, 0) = z := ⟨_, rfl⟩
              have Hn2 := Lib.hid gw
              clear gw
              have s0 := HS.out.box.cell (i := 0) rfl
              have s1 := HS.out.box.cell (i := 1) rfl
              have s2 := HS.out.box.cell (i := 2) rfl
              have cHX10 := HX1.out.cell (i := 0) rfl
              have cHX11 := HX1.out.cell (i := 1) rfl
              have cHX12 := HX1.out.cell (i := 2) rfl
              have cHX20 := HX2.out.cell (i := 0) rfl
              have cHX21 := HX2.out.cell (i := 1) rfl
              have cHX22 := HX2.out.cell (i := 2) rfl
              have cHX23 := HX2.out.cell (i := 3) rfl
              have cHX24 := HX2.out.cell (i := 4) rfl
              have cHX25 := HX2.out.cell (i := 5) rfl
              have cHX26 := HX2.out.cell (i := 6) rfl
              have cHX27 := HX2.out.cell (i := 7) rfl
              have cHX28 := HX2.out.cell (i := 8) rfl
              have cHX29 := HX2.out.cell (i := 9) rfl
              have cHX210 := HX2.out.cell (i := 10) rfl
              go_wp2_with fail
              clear s0 s1 s2 cHX10 cHX11 cHX12 cHX20 cHX21 cHX22 cHX23 cHX24 cHX25 cHX26 cHX27 cHX28 cHX29 cHX210
              refine (HS.out.cor_yes5 (congrArg Prod.snd Hgr.out) Hnr.out).mono ?_
              rintro e w31_x ⟨rfl, hb31_x⟩
              have HS_31 := Lib.hid ((HS.out.below hb31_x).below (below1 w31_x (.cells #[.int .i64 v1, .int .i64 v2, .int .i64 0, .int .i64 0, .int .i64 0] 34)))
              have HB_31 := Lib.hid (bel_al (bel_bl HB.out hb31_x) (.cells #[.int .i64 v1, .int .i64 v2, .int .i64 0, .int .i64 0, .int .i64 0] 34))
              have HX1_31 := Lib.hid ((HX1.out.below hb31_x).below (below1 w31_x (.cells #[.int .i64 v1, .int .i64 v2, .int .i64 0, .int .i64 0, .int .i64 0] 34)))
              have HX2_31 := Lib.hid ((HX2.out.below hb31_x).below (below1 w31_x (.cells #[.int .i64 v1, .int .i64 v2, .int .i64 0, .int .i64 0, .int .i64 0] 34)))
              have HC_31 : RowKit.Hid (Whole (w31_x.alloc (.cells #[.int .i64 v1, .int .i64 v2, .int .i64 0, .int .i64 0, .int .i64 0] 34)) w31_x.heap.size 34 [.int .i64 v1, .int .i64 v2, .int .i64 0, .int .i64 0, .int .i64 0]) := Lib.hid (Whole.new_ _ _ _)
              clear hb31_x HS HB HX1 HX2
              have s0 := HS_31.out.box.cell (i := 0) rfl
              have s1 := HS_31.out.box.cell (i := 1) rfl
              have s2 := HS_31.out.box.cell (i := 2) rfl
              have cHX10 := HX1_31.out.cell (i := 0) rfl
              have cHX11 := HX1_31.out.cell (i := 1) rfl
              have cHX12 := HX1_31.out.cell (i := 2) rfl
              have cHX20 := HX2_31.out.cell (i := 0) rfl
              have cHX21 := HX2_31.out.cell (i := 1) rfl
              have cHX22 := HX2_31.out.cell (i := 2) rfl
              have cHX23 := HX2_31.out.cell (i := 3) rfl
              have cHX24 := HX2_31.out.cell (i := 4) rfl
              have cHX25 := HX2_31.out.cell (i := 5) rfl
              have cHX26 := HX2_31.out.cell (i := 6) rfl
              have cHX27 := HX2_31.out.cell (i := 7) rfl
              have cHX28 := HX2_31.out.cell (i := 8) rfl
              have cHX29 := HX2_31.out.cell (i := 9) rfl
              have cHX210 := HX2_31.out.cell (i := 10) rfl
              have cHC0 := HC_31.out.cell (i := 0) rfl
              have cHC1 := HC_31.out.cell (i := 1) rfl
              have cHC2 := HC_31.out.cell (i := 2) rfl
              have cHC3 := HC_31.out.cell (i := 3) rfl
              have cHC4 := HC_31.out.cell (i := 4) rfl
              go_wp2_with fail
              clear s0 s1 s2 cHX10 cHX11 cHX12 cHX20 cHX21 cHX22 cHX23 cHX24 cHX25 cHX26 cHX27 cHX28 cHX29 cHX210 cHC0 cHC1 cHC2 cHC3 cHC4
              refine (HS_31.out.rvert5 Hgr.out).mono ?_
              rintro e w32_x ⟨rfl, hb32_x⟩
              have HS_32 := Lib.hid ((HS_31.out.below hb32_x).below (below1 w32_x (.cells #[.int .i64 i1, .int .i64 i2, .slice rA rn rc, .string lb, .int .i64 at_] 53)))
              have HB_32 := Lib.hid (bel_al (bel_bl HB_31.out hb32_x) (.cells #[.int .i64 i1, .int .i64 i2, .slice rA rn rc, .string lb, .int .i64 at_] 53))
              have HX1_32 := Lib.hid ((HX1_31.out.below hb32_x).below (below1 w32_x (.cells #[.int .i64 i1, .int .i64 i2, .slice rA rn rc, .string lb, .int .i64 at_] 53)))
              have HX2_32 := Lib.hid ((HX2_31.out.below hb32_x).below (below1 w32_x (.cells #[.int .i64 i1, .int .i64 i2, .slice rA rn rc, .string lb, .int .i64 at_] 53)))
              have HC_32 := Lib.hid ((HC_31.out.below hb32_x).below (below1 w32_x (.cells #[.int .i64 i1, .int .i64 i2, .slice rA rn rc, .string lb, .int .i64 at_] 53)))
              have HV_32 : RowKit.Hid (Whole (w32_x.alloc (.cells #[.int .i64 i1, .int .i64 i2, .slice rA rn rc, .string lb, .int .i64 at_] 53)) w32_x.heap.size 53 [.int .i64 i1, .int .i64 i2, .slice rA rn rc, .string lb, .int .i64 at_]) := Lib.hid (Whole.new_ _ _ _)
              clear hb32_x HS_31 HB_31 HX1_31 HX2_31 HC_31
              have heq0 := eq_dart_self 0 0 0
              have heqi := eq_id_self v1 v2
              have s0 := HS_32.out.box.cell (i := 0) rfl
              have s1 := HS_32.out.box.cell (i := 1) rfl
              have s2 := HS_32.out.box.cell (i := 2) rfl
              have cHX10 := HX1_32.out.cell (i := 0) rfl
              have cHX11 := HX1_32.out.cell (i := 1) rfl
              have cHX12 := HX1_32.out.cell (i := 2) rfl
              have cHX20 := HX2_32.out.cell (i := 0) rfl
              have cHX21 := HX2_32.out.cell (i := 1) rfl
              have cHX22 := HX2_32.out.cell (i := 2) rfl
              have cHX23 := HX2_32.out.cell (i := 3) rfl
              have cHX24 := HX2_32.out.cell (i := 4) rfl
              have cHX25 := HX2_32.out.cell (i := 5) rfl
              have cHX26 := HX2_32.out.cell (i := 6) rfl
              have cHX27 := HX2_32.out.cell (i := 7) rfl
              have cHX28 := HX2_32.out.cell (i := 8) rfl
              have cHX29 := HX2_32.out.cell (i := 9) rfl
              have cHX210 := HX2_32.out.cell (i := 10) rfl
              have cHC0 := HC_32.out.cell (i := 0) rfl
              have cHC1 := HC_32.out.cell (i := 1) rfl
              have cHC2 := HC_32.out.cell (i := 2) rfl
              have cHC3 := HC_32.out.cell (i := 3) rfl
              have cHC4 := HC_32.out.cell (i := 4) rfl
              have cHV0 := HV_32.out.cell (i := 0) rfl
              have cHV1 := HV_32.out.cell (i := 1) rfl
              have cHV2 := HV_32.out.cell (i := 2) rfl
              have cHV3 := HV_32.out.cell (i := 3) rfl
              have cHV4 := HV_32.out.cell (i := 4) rfl
              go_wp2_with fail
              clear s0 s1 s2 cHX10 cHX11 cHX12 cHX20 cHX21 cHX22 cHX23 cHX24 cHX25 cHX26 cHX27 cHX28 cHX29 cHX210 cHC0 cHC1 cHC2 cHC3 cHC4 cHV0 cHV1 cHV2 cHV3 cHV4
              refine (HS_32.out.cor_yes5 (congrArg Prod.snd Hgr.out) Hn2.out).mono ?_
              rintro e w33_x ⟨rfl, hb33_x⟩
              have HS_33 := Lib.hid ((HS_32.out.below hb33_x).below (below1 w33_x (.cells #[.int .i64 v1, .int .i64 v2, .int .i64 w1, .int .i64 w2, .int .i64 w3] 34)))
              have HB_33 := Lib.hid (bel_al (bel_bl HB_32.out hb33_x) (.cells #[.int .i64 v1, .int .i64 v2, .int .i64 w1, .int .i64 w2, .int .i64 w3] 34))
              have HX1_33 := Lib.hid ((HX1_32.out.below hb33_x).below (below1 w33_x (.cells #[.int .i64 v1, .int .i64 v2, .int .i64 w1, .int .i64 w2, .int .i64 w3] 34)))
              have HX2_33 := Lib.hid ((HX2_32.out.below hb33_x).below (below1 w33_x (.cells #[.int .i64 v1, .int .i64 v2, .int .i64 w1, .int .i64 w2, .int .i64 w3] 34)))
              have HC_33 := Lib.hid ((HC_32.out.below hb33_x).below (below1 w33_x (.cells #[.int .i64 v1, .int .i64 v2, .int .i64 w1, .int .i64 w2, .int .i64 w3] 34)))
              have HV_33 := Lib.hid ((HV_32.out.below hb33_x).below (below1 w33_x (.cells #[.int .i64 v1, .int .i64 v2, .int .i64 w1, .int .i64 w2, .int .i64 w3] 34)))
              have HD2_33 : RowKit.Hid (Whole (w33_x.alloc (.cells #[.int .i64 v1, .int .i64 v2, .int .i64 w1, .int .i64 w2, .int .i64 w3] 34)) w33_x.heap.size 34 [.int .i64 v1, .int .i64 v2, .int .i64 w1, .int .i64 w2, .int .i64 w3]) := Lib.hid (Whole.new_ _ _ _)
              clear hb33_x HS_32 HB_32 HX1_32 HX2_32 HC_32 HV_32
              have s0 := HS_33.out.box.cell (i := 0) rfl
              have s1 := HS_33.out.box.cell (i := 1) rfl
              have s2 := HS_33.out.box.cell (i := 2) rfl
              have cHX10 := HX1_33.out.cell (i := 0) rfl
              have cHX11 := HX1_33.out.cell (i := 1) rfl
              have cHX12 := HX1_33.out.cell (i := 2) rfl
              have cHX20 := HX2_33.out.cell (i := 0) rfl
              have cHX21 := HX2_33.out.cell (i := 1) rfl
              have cHX22 := HX2_33.out.cell (i := 2) rfl
              have cHX23 := HX2_33.out.cell (i := 3) rfl
              have cHX24 := HX2_33.out.cell (i := 4) rfl
              have cHX25 := HX2_33.out.cell (i := 5) rfl
              have cHX26 := HX2_33.out.cell (i := 6) rfl
              have cHX27 := HX2_33.out.cell (i := 7) rfl
              have cHX28 := HX2_33.out.cell (i := 8) rfl
              have cHX29 := HX2_33.out.cell (i := 9) rfl
              have cHX210 := HX2_33.out.cell (i := 10) rfl
              have cHC0 := HC_33.out.cell (i := 0) rfl
              have cHC1 := HC_33.out.cell (i := 1) rfl
              have cHC2 := HC_33.out.cell (i := 2) rfl
              have cHC3 := HC_33.out.cell (i := 3) rfl
              have cHC4 := HC_33.out.cell (i := 4) rfl
              have cHV0 := HV_33.out.cell (i := 0) rfl
              have cHV1 := HV_33.out.cell (i := 1) rfl
              have cHV2 := HV_33.out.cell (i := 2) rfl
              have cHV3 := HV_33.out.cell (i := 3) rfl
              have cHV4 := HV_33.out.cell (i := 4) rfl
              have cHD20 := HD2_33.out.cell (i := 0) rfl
              have cHD21 := HD2_33.out.cell (i := 1) rfl
              have cHD22 := HD2_33.out.cell (i := 2) rfl
              have cHD23 := HD2_33.out.cell (i := 3) rfl
              have cHD24 := HD2_33.out.cell (i := 4) rfl
              go_wp2
              clear s0 s1 s2 cHX10 cHX11 cHX12 cHX20 cHX21 cHX22 cHX23 cHX24 cHX25 cHX26 cHX27 cHX28 cHX29 cHX210 cHC0 cHC1 cHC2 cHC3 cHC4 cHV0 cHV1 cHV2 cHV3 cHV4 cHD20 cHD21 cHD22 cHD23 cHD24
              go_ret
              exact ⟨rfl, HB_33.out⟩
            · rcases hns with hns | ⟨hm1, hm2⟩
              · exact absurd hns hz0
              have Hn2 := Lib.hid hm2
              obtain ⟨ix, gix⟩ : ∃ z, idxD rL (z1, z2, z3) = z := ⟨_, rfl⟩
              have Hix := Lib.hid gix
              have hxi : idxD rL (z1, z2, z3) = (rL.idxOf (z1, z2, z3) : Int) := by rw [idxD]; exact if_pos hm1
              have hq : decide (0 ≤ ix) = true := decide_eq_true (by rw [← gix, hxi]; omega)
              clear gix hxi hm1 hm2
              have s0 := HS.out.box.cell (i := 0) rfl
              have s1 := HS.out.box.cell (i := 1) rfl
              have s2 := HS.out.box.cell (i := 2) rfl
              have cHX10 := HX1.out.cell (i := 0) rfl
              have cHX11 := HX1.out.cell (i := 1) rfl
              have cHX12 := HX1.out.cell (i := 2) rfl
              have cHX20 := HX2.out.cell (i := 0) rfl
              have cHX21 := HX2.out.cell (i := 1) rfl
              have cHX22 := HX2.out.cell (i := 2) rfl
              have cHX23 := HX2.out.cell (i := 3) rfl
              have cHX24 := HX2.out.cell (i := 4) rfl
              have cHX25 := HX2.out.cell (i := 5) rfl
              have cHX26 := HX2.out.cell (i := 6) rfl
              have cHX27 := HX2.out.cell (i := 7) rfl
              have cHX28 := HX2.out.cell (i := 8) rfl
              have cHX29 := HX2.out.cell (i := 9) rfl
              have cHX210 := HX2.out.cell (i := 10) rfl
              go_wp2_with fail
              clear s0 s1 s2 cHX10 cHX11 cHX12 cHX20 cHX21 cHX22 cHX23 cHX24 cHX25 cHX26 cHX27 cHX28 cHX29 cHX210
              refine (HS.out.cor_yes5 (congrArg Prod.snd Hgr.out) Hnr.out).mono ?_
              rintro e w31_x ⟨rfl, hb31_x⟩
              have HS_31 := Lib.hid ((HS.out.below hb31_x).below (below1 w31_x (.cells #[.int .i64 v1, .int .i64 v2, .int .i64 z1, .int .i64 z2, .int .i64 z3] 34)))
              have HB_31 := Lib.hid (bel_al (bel_bl HB.out hb31_x) (.cells #[.int .i64 v1, .int .i64 v2, .int .i64 z1, .int .i64 z2, .int .i64 z3] 34))
              have HX1_31 := Lib.hid ((HX1.out.below hb31_x).below (below1 w31_x (.cells #[.int .i64 v1, .int .i64 v2, .int .i64 z1, .int .i64 z2, .int .i64 z3] 34)))
              have HX2_31 := Lib.hid ((HX2.out.below hb31_x).below (below1 w31_x (.cells #[.int .i64 v1, .int .i64 v2, .int .i64 z1, .int .i64 z2, .int .i64 z3] 34)))
              have HC_31 : RowKit.Hid (Whole (w31_x.alloc (.cells #[.int .i64 v1, .int .i64 v2, .int .i64 z1, .int .i64 z2, .int .i64 z3] 34)) w31_x.heap.size 34 [.int .i64 v1, .int .i64 v2, .int .i64 z1, .int .i64 z2, .int .i64 z3]) := Lib.hid (Whole.new_ _ _ _)
              clear hb31_x HS HB HX1 HX2
              have s0 := HS_31.out.box.cell (i := 0) rfl
              have s1 := HS_31.out.box.cell (i := 1) rfl
              have s2 := HS_31.out.box.cell (i := 2) rfl
              have cHX10 := HX1_31.out.cell (i := 0) rfl
              have cHX11 := HX1_31.out.cell (i := 1) rfl
              have cHX12 := HX1_31.out.cell (i := 2) rfl
              have cHX20 := HX2_31.out.cell (i := 0) rfl
              have cHX21 := HX2_31.out.cell (i := 1) rfl
              have cHX22 := HX2_31.out.cell (i := 2) rfl
              have cHX23 := HX2_31.out.cell (i := 3) rfl
              have cHX24 := HX2_31.out.cell (i := 4) rfl
              have cHX25 := HX2_31.out.cell (i := 5) rfl
              have cHX26 := HX2_31.out.cell (i := 6) rfl
              have cHX27 := HX2_31.out.cell (i := 7) rfl
              have cHX28 := HX2_31.out.cell (i := 8) rfl
              have cHX29 := HX2_31.out.cell (i := 9) rfl
              have cHX210 := HX2_31.out.cell (i := 10) rfl
              have cHC0 := HC_31.out.cell (i := 0) rfl
              have cHC1 := HC_31.out.cell (i := 1) rfl
              have cHC2 := HC_31.out.cell (i := 2) rfl
              have cHC3 := HC_31.out.cell (i := 3) rfl
              have cHC4 := HC_31.out.cell (i := 4) rfl
              go_wp2_with fail
              clear s0 s1 s2 cHX10 cHX11 cHX12 cHX20 cHX21 cHX22 cHX23 cHX24 cHX25 cHX26 cHX27 cHX28 cHX29 cHX210 cHC0 cHC1 cHC2 cHC3 cHC4
              refine (HS_31.out.rvert5 Hgr.out).mono ?_
              rintro e w32_x ⟨rfl, hb32_x⟩
              have HS_32 := Lib.hid ((HS_31.out.below hb32_x).below (below1 w32_x (.cells #[.int .i64 i1, .int .i64 i2, .slice rA rn rc, .string lb, .int .i64 at_] 53)))
              have HB_32 := Lib.hid (bel_al (bel_bl HB_31.out hb32_x) (.cells #[.int .i64 i1, .int .i64 i2, .slice rA rn rc, .string lb, .int .i64 at_] 53))
              have HX1_32 := Lib.hid ((HX1_31.out.below hb32_x).below (below1 w32_x (.cells #[.int .i64 i1, .int .i64 i2, .slice rA rn rc, .string lb, .int .i64 at_] 53)))
              have HX2_32 := Lib.hid ((HX2_31.out.below hb32_x).below (below1 w32_x (.cells #[.int .i64 i1, .int .i64 i2, .slice rA rn rc, .string lb, .int .i64 at_] 53)))
              have HC_32 := Lib.hid ((HC_31.out.below hb32_x).below (below1 w32_x (.cells #[.int .i64 i1, .int .i64 i2, .slice rA rn rc, .string lb, .int .i64 at_] 53)))
              have HV_32 : RowKit.Hid (Whole (w32_x.alloc (.cells #[.int .i64 i1, .int .i64 i2, .slice rA rn rc, .string lb, .int .i64 at_] 53)) w32_x.heap.size 53 [.int .i64 i1, .int .i64 i2, .slice rA rn rc, .string lb, .int .i64 at_]) := Lib.hid (Whole.new_ _ _ _)
              clear hb32_x HS_31 HB_31 HX1_31 HX2_31 HC_31
              have heq0 := eq_dart_not (a' := 0) (b' := 0) (c' := 0) hz0
              have heqi := eq_id_self v1 v2
              have heqc := eq_cor_self v1 v2 z1 z2 z3
              have s0 := HS_32.out.box.cell (i := 0) rfl
              have s1 := HS_32.out.box.cell (i := 1) rfl
              have s2 := HS_32.out.box.cell (i := 2) rfl
              have cHX10 := HX1_32.out.cell (i := 0) rfl
              have cHX11 := HX1_32.out.cell (i := 1) rfl
              have cHX12 := HX1_32.out.cell (i := 2) rfl
              have cHX20 := HX2_32.out.cell (i := 0) rfl
              have cHX21 := HX2_32.out.cell (i := 1) rfl
              have cHX22 := HX2_32.out.cell (i := 2) rfl
              have cHX23 := HX2_32.out.cell (i := 3) rfl
              have cHX24 := HX2_32.out.cell (i := 4) rfl
              have cHX25 := HX2_32.out.cell (i := 5) rfl
              have cHX26 := HX2_32.out.cell (i := 6) rfl
              have cHX27 := HX2_32.out.cell (i := 7) rfl
              have cHX28 := HX2_32.out.cell (i := 8) rfl
              have cHX29 := HX2_32.out.cell (i := 9) rfl
              have cHX210 := HX2_32.out.cell (i := 10) rfl
              have cHC0 := HC_32.out.cell (i := 0) rfl
              have cHC1 := HC_32.out.cell (i := 1) rfl
              have cHC2 := HC_32.out.cell (i := 2) rfl
              have cHC3 := HC_32.out.cell (i := 3) rfl
              have cHC4 := HC_32.out.cell (i := 4) rfl
              have cHV0 := HV_32.out.cell (i := 0) rfl
              have cHV1 := HV_32.out.cell (i := 1) rfl
              have cHV2 := HV_32.out.cell (i := 2) rfl
              have cHV3 := HV_32.out.cell (i := 3) rfl
              have cHV4 := HV_32.out.cell (i := 4) rfl
              go_wp2_with fail
              clear s0 s1 s2 cHX10 cHX11 cHX12 cHX20 cHX21 cHX22 cHX23 cHX24 cHX25 cHX26 cHX27 cHX28 cHX29 cHX210 cHC0 cHC1 cHC2 cHC3 cHC4 cHV0 cHV1 cHV2 cHV3 cHV4
              refine (HS_32.out.ring5 Hgr.out Hix.out).mono ?_
              rintro e w33_x ⟨rfl, hb33_x⟩
              have HS_33 := Lib.hid (HS_32.out.below hb33_x)
              have HB_33 := Lib.hid (bel_bl HB_32.out hb33_x)
              have HX1_33 := Lib.hid (HX1_32.out.below hb33_x)
              have HX2_33 := Lib.hid (HX2_32.out.below hb33_x)
              have HC_33 := Lib.hid (HC_32.out.below hb33_x)
              have HV_33 := Lib.hid (HV_32.out.below hb33_x)
              clear hb33_x HS_32 HB_32 HX1_32 HX2_32 HC_32 HV_32
              have s0 := HS_33.out.box.cell (i := 0) rfl
              have s1 := HS_33.out.box.cell (i := 1) rfl
              have s2 := HS_33.out.box.cell (i := 2) rfl
              have cHX10 := HX1_33.out.cell (i := 0) rfl
              have cHX11 := HX1_33.out.cell (i := 1) rfl
              have cHX12 := HX1_33.out.cell (i := 2) rfl
              have cHX20 := HX2_33.out.cell (i := 0) rfl
              have cHX21 := HX2_33.out.cell (i := 1) rfl
              have cHX22 := HX2_33.out.cell (i := 2) rfl
              have cHX23 := HX2_33.out.cell (i := 3) rfl
              have cHX24 := HX2_33.out.cell (i := 4) rfl
              have cHX25 := HX2_33.out.cell (i := 5) rfl
              have cHX26 := HX2_33.out.cell (i := 6) rfl
              have cHX27 := HX2_33.out.cell (i := 7) rfl
              have cHX28 := HX2_33.out.cell (i := 8) rfl
              have cHX29 := HX2_33.out.cell (i := 9) rfl
              have cHX210 := HX2_33.out.cell (i := 10) rfl
              have cHC0 := HC_33.out.cell (i := 0) rfl
              have cHC1 := HC_33.out.cell (i := 1) rfl
              have cHC2 := HC_33.out.cell (i := 2) rfl
              have cHC3 := HC_33.out.cell (i := 3) rfl
              have cHC4 := HC_33.out.cell (i := 4) rfl
              have cHV0 := HV_33.out.cell (i := 0) rfl
              have cHV1 := HV_33.out.cell (i := 1) rfl
              have cHV2 := HV_33.out.cell (i := 2) rfl
              have cHV3 := HV_33.out.cell (i := 3) rfl
              have cHV4 := HV_33.out.cell (i := 4) rfl
              go_wp2_with fail
              clear s0 s1 s2 cHX10 cHX11 cHX12 cHX20 cHX21 cHX22 cHX23 cHX24 cHX25 cHX26 cHX27 cHX28 cHX29 cHX210 cHC0 cHC1 cHC2 cHC3 cHC4 cHV0 cHV1 cHV2 cHV3 cHV4
              refine (HS_33.out.cor_yes5 (congrArg Prod.snd Hgr.out) Hn2.out).mono ?_
              rintro e w34_x ⟨rfl, hb34_x⟩
              have HS_34 := Lib.hid ((HS_33.out.below hb34_x).below (below1 w34_x (.cells #[.int .i64 v1, .int .i64 v2, .int .i64 z1, .int .i64 z2, .int .i64 z3] 34)))
              have HB_34 := Lib.hid (bel_al (bel_bl HB_33.out hb34_x) (.cells #[.int .i64 v1, .int .i64 v2, .int .i64 z1, .int .i64 z2, .int .i64 z3] 34))
              have HX1_34 := Lib.hid ((HX1_33.out.below hb34_x).below (below1 w34_x (.cells #[.int .i64 v1, .int .i64 v2, .int .i64 z1, .int .i64 z2, .int .i64 z3] 34)))
              have HX2_34 := Lib.hid ((HX2_33.out.below hb34_x).below (below1 w34_x (.cells #[.int .i64 v1, .int .i64 v2, .int .i64 z1, .int .i64 z2, .int .i64 z3] 34)))
              have HC_34 := Lib.hid ((HC_33.out.below hb34_x).below (below1 w34_x (.cells #[.int .i64 v1, .int .i64 v2, .int .i64 z1, .int .i64 z2, .int .i64 z3] 34)))
              have HV_34 := Lib.hid ((HV_33.out.below hb34_x).below (below1 w34_x (.cells #[.int .i64 v1, .int .i64 v2, .int .i64 z1, .int .i64 z2, .int .i64 z3] 34)))
              have HD2_34 : RowKit.Hid (Whole (w34_x.alloc (.cells #[.int .i64 v1, .int .i64 v2, .int .i64 z1, .int .i64 z2, .int .i64 z3] 34)) w34_x.heap.size 34 [.int .i64 v1, .int .i64 v2, .int .i64 z1, .int .i64 z2, .int .i64 z3]) := Lib.hid (Whole.new_ _ _ _)
              clear hb34_x HS_33 HB_33 HX1_33 HX2_33 HC_33 HV_33
              have s0 := HS_34.out.box.cell (i := 0) rfl
              have s1 := HS_34.out.box.cell (i := 1) rfl
              have s2 := HS_34.out.box.cell (i := 2) rfl
              have cHX10 := HX1_34.out.cell (i := 0) rfl
              have cHX11 := HX1_34.out.cell (i := 1) rfl
              have cHX12 := HX1_34.out.cell (i := 2) rfl
              have cHX20 := HX2_34.out.cell (i := 0) rfl
              have cHX21 := HX2_34.out.cell (i := 1) rfl
              have cHX22 := HX2_34.out.cell (i := 2) rfl
              have cHX23 := HX2_34.out.cell (i := 3) rfl
              have cHX24 := HX2_34.out.cell (i := 4) rfl
              have cHX25 := HX2_34.out.cell (i := 5) rfl
              have cHX26 := HX2_34.out.cell (i := 6) rfl
              have cHX27 := HX2_34.out.cell (i := 7) rfl
              have cHX28 := HX2_34.out.cell (i := 8) rfl
              have cHX29 := HX2_34.out.cell (i := 9) rfl
              have cHX210 := HX2_34.out.cell (i := 10) rfl
              have cHC0 := HC_34.out.cell (i := 0) rfl
              have cHC1 := HC_34.out.cell (i := 1) rfl
              have cHC2 := HC_34.out.cell (i := 2) rfl
              have cHC3 := HC_34.out.cell (i := 3) rfl
              have cHC4 := HC_34.out.cell (i := 4) rfl
              have cHV0 := HV_34.out.cell (i := 0) rfl
              have cHV1 := HV_34.out.cell (i := 1) rfl
              have cHV2 := HV_34.out.cell (i := 2) rfl
              have cHV3 := HV_34.out.cell (i := 3) rfl
              have cHV4 := HV_34.out.cell (i := 4) rfl
              have cHD20 := HD2_34.out.cell (i := 0) rfl
              have cHD21 := HD2_34.out.cell (i := 1) rfl
              have cHD22 := HD2_34.out.cell (i := 2) rfl
              have cHD23 := HD2_34.out.cell (i := 3) rfl
              have cHD24 := HD2_34.out.cell (i := 4) rfl
              go_wp2
              clear s0 s1 s2 cHX10 cHX11 cHX12 cHX20 cHX21 cHX22 cHX23 cHX24 cHX25 cHX26 cHX27 cHX28 cHX29 cHX210 cHC0 cHC1 cHC2 cHC3 cHC4 cHV0 cHV1 cHV2 cHV3 cHV4 cHD20 cHD21 cHD22 cHD23 cHD24
              go_ret
              exact ⟨rfl, HB_34.out⟩
end Go.Proofs.Ytkhklhipiiehbaa
