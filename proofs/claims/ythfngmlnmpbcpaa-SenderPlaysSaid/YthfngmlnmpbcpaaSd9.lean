/- Clone of a sender. -/
import Derived.Test.YthfngmlnmpbcpaaSd5
namespace Go.Proofs.Ythfngmlnmpbcpaa
open Go.RowKit Go.Deep
set_option linter.unusedSimpArgs false
set_option linter.unusedVariables false

/-- s[:k:k] -/
theorem exec_slice_full {P : Program} {ev : Operand → Value} {o : Oper} {w : World} (t e : TypeId) (x hi mx : Operand) (ho : o.op = .slice t x none (some hi) (some mx)) (hu : P.underlying t = some (.slice e)) {s : Nat} (hs : (P.info? e).map (·.size) = some s)
    {A : Option Addr} {n c k : Nat} (hx : ev x = .slice A n c) (hk : ev hi = .int .i64 (k : Int)) (hm : ev mx = .int .i64 (k : Int)) (hkc : k ≤ c) : (execOp ev o).run P w = .ok (.value (.slice A k k)) w := by
  cases hq : P.info? e with
  | none => simp [hq] at hs
  | some i =>
    have hi' : i.size = s := by simpa [hq] using hs
    have h1 : (Instr.slice t (.slice A n c) none (some (.int .i64 (k : Int))) (some (.int .i64 (k : Int)))).run P w = .ok (.slice A k k) w := by
      have hb : ∀ cd, (Instr.sliceBound (.int .i64 (k : Int)) c cd).run P w = .ok (k : Int).toNat w := fun cd => run_sliceBound _ _ _ _ _ (Int.natCast_nonneg k) (by omega)
      have hb2 : ∀ cd, (Instr.sliceBound (.int .i64 (k : Int)) k cd).run P w = .ok (k : Int).toNat w := fun cd => run_sliceBound _ _ _ _ _ (Int.natCast_nonneg k) (by omega)
      simp only [Instr.slice, Sem.run_bind, run_underlying hu, Result.andThen_ok, Instr.sliceBounds, Sem.run_pure, if_true, hb, hb2, sizeOf, typeInfo, hq, Int.toNat_natCast]
      simp [hq, Addr.add]
    unfold execOp
    simp only [ho, Option.map_none, Option.map_some, hx, hk, hm, Sem.run_bind, Sem.run_pure, Result.andThen_ok]
    rw [show (Instr.sliceAt t (.slice A n c) none (some (.int .i64 (k : Int))) (some (.int .i64 (k : Int)))).run P w = (Instr.slice t (.slice A n c) none (some (.int .i64 (k : Int))) (some (.int .i64 (k : Int)))).run P w from by simp [Instr.sliceAt, run_underlying hu], h1]
    rfl
theorem RdS.full {w : World} {B size n c : Nat} {A : Option Addr} {xs : List Value} (h : RdS w B size A n c xs) : RdS w B size A n n xs :=
  ⟨h.len, fun e => ⟨(h.none_ e).1, (h.none_ e).1⟩, Nat.le_refl _, h.low, h.cell⟩
/-- What a clone is. -/
theorem SdIn.clone {B : Nat} {w W : World} {g win ack c g' : Nat} {Ls : List (List Nat)} {A : Option Addr} {es : List Sl} {k : Option Nat} (h : SdIn B w g win ack Ls A c es k) (hb : Below w.heap.size w W) (hg : w.heap.size ≤ g') (hB : B ≤ w.heap.size)
    (hw : Whole W g' 66 [.int .i64 (win : Int), .int .i64 (ack : Int), .slice A Ls.length Ls.length]) : SdIn B W g' win ack Ls A Ls.length es none := by
  have h' := h.below hb
  refine ⟨hw, Nat.le_trans hB hg, h'.row.full, .inr ⟨rfl, rfl⟩, fun a ha hn e => ?_, (fun e => by cases e), fun i L hL => ?_⟩
  · have := h.row.low a ha hn
    omega
  · obtain ⟨a, m, q1, q2, q3, q4, q5⟩ := h'.each i L hL
    refine ⟨a, m, q1, q2, q3, q4, fun a' ha hn => ⟨fun e => ?_, fun e => (by cases e)⟩⟩
    obtain ⟨a1, m1, p1, p2, _⟩ := h.each i L hL
    rw [q1] at p1
    injection p1 with p1
    injection p1 with p1 _
    have := p2.low a' (p1.symm.trans ha) hn
    omega
set_option maxRecDepth 100000 in
set_option maxHeartbeats 1000000 in
theorem clone_sd {B : Nat} {g win ack c : Nat} {Ls : List (List Nat)} {A : Option Addr} {es : List Sl} {k : Option Nat} (w : World) (h : SdIn B w g win ack Ls A c es k) (hB : B ≤ w.heap.size) :
    Calls Try.prog 12 #[.pointer (some ⟨g, 0, none⟩)] w fun e w' => ∃ g', e = .returned (.pointer (some ⟨g', 0, none⟩)) ∧ w.heap.size ≤ g' ∧ SdIn B w' g' win ack Ls A Ls.length es none ∧ Below w.heap.size w w' := by
  have l2 := h.box.cell (i := 2) rfl
  have ld0 : ∀ w', Kept Nil_ w.drew w' → w'.cell? ⟨g, 0, none⟩ = some (.int .i64 (win : Int)) := fun w' hk => hk.nil_cell (h.drew.box.cell (i := 0) rfl)
  have ld1 : ∀ w', Kept Nil_ w.drew w' → w'.cell? ⟨g, 1, none⟩ = some (.int .i64 (ack : Int)) := fun w' hk => hk.nil_cell (h.drew.box.cell (i := 1) rfl)
  have ld2 : ∀ w', Kept Nil_ w.drew w' → w'.cell? ⟨g, 2, none⟩ = some (.slice A Ls.length c) := fun w' hk => hk.nil_cell (h.drew.box.cell (i := 2) rfl)
  have hle := h.row.le
  have H := Lib.hid h
  clear h
  go_enter Try.func12, Try.ntmps12
  go_upto_region 2 with fail
  clear l2
  refine wp_region_reg (Nil_) (by kernel_rfl) ?_
  apply wpR_next 0 (some 9)
  · simp only [List.getElem?_toArray, List.getElem?_cons_succ, List.getElem?_cons_zero]; exact rfl
  · rfl
  · kernel_rfl
  · kernel_rfl
  · kernel_rfl
  · exact fun _ _ _ _ h => h
  apply Exists.intro
  apply And.intro
  · apply yr_run; rfl; intro w' hw'; go_simp; (try with_reducible rfl)
  simp only [Act.put, List.setIfInBounds_toArray, List.set_cons_zero, List.set_cons_succ]
  apply wpR_next 1 (some 10)
  · simp only [List.getElem?_toArray, List.getElem?_cons_succ, List.getElem?_cons_zero]; exact rfl
  · rfl
  · kernel_rfl
  · kernel_rfl
  · kernel_rfl
  · exact fun _ _ _ _ h => h
  apply Exists.intro
  apply And.intro
  · apply yr_run; rfl; intro w' hw'; go_simp; (try with_reducible rfl)
  simp only [Act.put, List.setIfInBounds_toArray, List.set_cons_zero, List.set_cons_succ]
  apply wpR_next 2 (some 11)
  · simp only [List.getElem?_toArray, List.getElem?_cons_succ, List.getElem?_cons_zero]; exact rfl
  · rfl
  · kernel_rfl
  · kernel_rfl
  · kernel_rfl
  · exact fun _ _ _ _ h => h
  apply Exists.intro
  apply And.intro
  · apply yr_run; rfl; intro w' hw'; go_simp; (try with_reducible rfl)
  simp only [Act.put, List.setIfInBounds_toArray, List.set_cons_zero, List.set_cons_succ]
  apply wpR_next 3 (some 12)
  · simp only [List.getElem?_toArray, List.getElem?_cons_succ, List.getElem?_cons_zero]; exact rfl
  · rfl
  · kernel_rfl
  · kernel_rfl
  · kernel_rfl
  · exact fun _ _ _ _ h => h
  apply Exists.intro
  apply And.intro
  · apply yr_run; rfl; intro w' hw'; go_simp; (try with_reducible rfl)
  simp only [Act.put, List.setIfInBounds_toArray, List.set_cons_zero, List.set_cons_succ]
  apply wpR_next 4 (some 13)
  · simp only [List.getElem?_toArray, List.getElem?_cons_succ, List.getElem?_cons_zero]; exact rfl
  · rfl
  · kernel_rfl
  · kernel_rfl
  · kernel_rfl
  · exact fun _ _ _ _ h => h
  apply Exists.intro
  apply And.intro
  · apply yr_run; rfl; intro w' hw'; go_simp; (try with_reducible rfl)
  simp only [Act.put, List.setIfInBounds_toArray, List.set_cons_zero, List.set_cons_succ]
  apply wpR_next 5 (some 14)
  · simp only [List.getElem?_toArray, List.getElem?_cons_succ, List.getElem?_cons_zero]; exact rfl
  · rfl
  · kernel_rfl
  · kernel_rfl
  · kernel_rfl
  · exact fun _ _ _ _ h => h
  apply Exists.intro
  apply And.intro
  · apply yr_run; rfl; intro w' hw'; go_simp; (try with_reducible rfl)
  simp only [Act.put, List.setIfInBounds_toArray, List.set_cons_zero, List.set_cons_succ]
  apply wpR_next 6 (some 15)
  · simp only [List.getElem?_toArray, List.getElem?_cons_succ, List.getElem?_cons_zero]; exact rfl
  · rfl
  · kernel_rfl
  · kernel_rfl
  · kernel_rfl
  · exact fun _ _ _ _ h => h
  apply Exists.intro
  apply And.intro
  · apply yr_run; rfl; intro w' hw'; go_simp; (try with_reducible rfl)
  simp only [Act.put, List.setIfInBounds_toArray, List.set_cons_zero, List.set_cons_succ]
  apply wpR_next 7 (some 16)
  · simp only [List.getElem?_toArray, List.getElem?_cons_succ, List.getElem?_cons_zero]; exact rfl
  · rfl
  · kernel_rfl
  · kernel_rfl
  · kernel_rfl
  · exact fun _ _ _ _ h => h
  apply Exists.intro
  apply And.intro
  · apply yr_run; rfl; intro w' hw'; go_simp; (try with_reducible rfl)
  simp only [Act.put, List.setIfInBounds_toArray, List.set_cons_zero, List.set_cons_succ]
  apply wpR_next 8 (some 17)
  · simp only [List.getElem?_toArray, List.getElem?_cons_succ, List.getElem?_cons_zero]; exact rfl
  · rfl
  · kernel_rfl
  · kernel_rfl
  · kernel_rfl
  · exact fun _ _ _ _ h => h
  apply Exists.intro
  apply And.intro
  · apply yr_run; rfl; intro w' hw'; go_simp; (try with_reducible rfl)
  simp only [Act.put, List.setIfInBounds_toArray, List.set_cons_zero, List.set_cons_succ]
  apply wpR_next 9 (some 18)
  · simp only [List.getElem?_toArray, List.getElem?_cons_succ, List.getElem?_cons_zero]; exact rfl
  · rfl
  · kernel_rfl
  · kernel_rfl
  · kernel_rfl
  · exact fun _ _ _ _ h => h
  apply Exists.intro
  apply And.intro
  · apply yr_run; rfl; intro w' hw'; go_simp; (try with_reducible rfl)
  simp only [Act.put, List.setIfInBounds_toArray, List.set_cons_zero, List.set_cons_succ]
  apply wpR_next 10 (some 19)
  · simp only [List.getElem?_toArray, List.getElem?_cons_succ, List.getElem?_cons_zero]; exact rfl
  · rfl
  · kernel_rfl
  · kernel_rfl
  · kernel_rfl
  · exact fun _ _ _ _ h => h
  apply Exists.intro
  apply And.intro
  · apply yr_run; rfl; intro w' hw'; go_simp; (try with_reducible rfl)
  simp only [Act.put, List.setIfInBounds_toArray, List.set_cons_zero, List.set_cons_succ]
  apply wpR_next 11 (some 20)
  · simp only [List.getElem?_toArray, List.getElem?_cons_succ, List.getElem?_cons_zero]; exact rfl
  · rfl
  · kernel_rfl
  · kernel_rfl
  · kernel_rfl
  · exact fun _ _ _ _ h => h
  apply Exists.intro
  apply And.intro
  · apply yr_run; rfl; intro w' hw'; go_simp; (try with_reducible rfl)
  simp only [Act.put, List.setIfInBounds_toArray, List.set_cons_zero, List.set_cons_succ]
  apply wpR_next 12 (some 21)
  · simp only [List.getElem?_toArray, List.getElem?_cons_succ, List.getElem?_cons_zero]; exact rfl
  · rfl
  · kernel_rfl
  · kernel_rfl
  · kernel_rfl
  · exact fun _ _ _ _ h => h
  apply Exists.intro
  apply And.intro
  · apply yr_run; rfl; intro w' hw'; go_simp; (try with_reducible rfl)
  simp only [Act.put, List.setIfInBounds_toArray, List.set_cons_zero, List.set_cons_succ]
  apply wpR_next 13 (some 22)
  · simp only [List.getElem?_toArray, List.getElem?_cons_succ, List.getElem?_cons_zero]; exact rfl
  · rfl
  · kernel_rfl
  · kernel_rfl
  · kernel_rfl
  · exact fun _ _ _ _ h => h
  apply Exists.intro
  apply And.intro
  · apply yr_run; rfl; intro w' hw'; go_simp; (try with_reducible rfl)
  simp only [Act.put, List.setIfInBounds_toArray, List.set_cons_zero, List.set_cons_succ]
  apply wpR_next 14 (some 23)
  · simp only [List.getElem?_toArray, List.getElem?_cons_succ, List.getElem?_cons_zero]; exact rfl
  · rfl
  · kernel_rfl
  · kernel_rfl
  · kernel_rfl
  · exact fun _ _ _ _ h => h
  apply Exists.intro
  apply And.intro
  · exact yr_run (by rfl) (fun w' h => exec_slice_full 34 32 (.tmp 20) (.tmp 21) (.tmp 22) rfl Try.underlying34 (s := 1) (by kernel_rfl) rfl rfl rfl hle)
  simp only [Act.put, List.setIfInBounds_toArray, List.set_cons_zero, List.set_cons_succ]
  apply wpR_next 15 (some 24)
  · simp only [List.getElem?_toArray, List.getElem?_cons_succ, List.getElem?_cons_zero]; exact rfl
  · rfl
  · kernel_rfl
  · kernel_rfl
  · kernel_rfl
  · exact fun _ _ _ _ h => h
  apply Exists.intro
  apply And.intro
  · apply yr_run; rfl; intro w' hw'; go_simp; (try with_reducible rfl)
  simp only [Act.put, List.setIfInBounds_toArray, List.set_cons_zero, List.set_cons_succ]
  apply wpR_run 16 (some 25)
  · simp only [List.getElem?_toArray, List.getElem?_cons_succ, List.getElem?_cons_zero]; exact rfl
  · rfl
  · kernel_rfl
  · rfl
  intro w' hw'
  apply Exists.intro
  apply Exists.intro
  apply And.intro
  · go_simp; first | done | exact ⟨rfl, rfl⟩ | exact rfl
  apply And.intro
  · exact Kept.of_below (below1 _ _)
  have HX : RowKit.Hid (Below w.heap.size w w') := Lib.hid (Ext.trans ((Below.refl _ _).drew) hw')
  have HW : RowKit.Hid (Whole (w'.alloc (.cells #[.int .i64 (win : Int), .int .i64 (ack : Int), .slice A Ls.length Ls.length] 66)) w'.heap.size 66 [.int .i64 (win : Int), .int .i64 (ack : Int), .slice A Ls.length Ls.length]) := Lib.hid (Whole.new_ _ _ [_, _, _])
  have HX2 : RowKit.Hid (Below w.heap.size w (w'.alloc (.cells #[.int .i64 (win : Int), .int .i64 (ack : Int), .slice A Ls.length Ls.length] 66))) := Lib.hid (bel_al HX.out _)
  have HGe : RowKit.Hid (w.heap.size ≤ w'.heap.size) := Lib.hid HX.out.size
  obtain ⟨W2, gW2⟩ : ∃ z, w'.alloc (.cells #[.int .i64 (win : Int), .int .i64 (ack : Int), .slice A Ls.length Ls.length] 66) = z := ⟨_, rfl⟩
  obtain ⟨g2, gg2⟩ : ∃ z, w'.heap.size = z := ⟨_, rfl⟩
  rw [gW2, gg2] at HW
  rw [gW2] at HX2 ⊢
  rw [gg2] at HGe ⊢
  clear hw' HX gW2 gg2
  simp only [Act.put, List.setIfInBounds_toArray, List.set_cons_zero, List.set_cons_succ]
  apply wpR_next 17 (some 2)
  · simp only [List.getElem?_toArray, List.getElem?_cons_succ, List.getElem?_cons_zero]; exact rfl
  · rfl
  · kernel_rfl
  · kernel_rfl
  · kernel_rfl
  · exact fun _ _ _ _ h => h
  apply Exists.intro
  apply And.intro
  · apply yr_run; rfl; intro w' hw'; go_simp; (try with_reducible rfl)
  simp only [Act.put, List.setIfInBounds_toArray, List.set_cons_zero, List.set_cons_succ]
  refine wpR_done (by kernel_rfl) ?_ _
  intro W3 hw3
  have HS := Lib.hid (H.out.clone (bel_bl HX2.out hw3) HGe.out hB (HW.out.below hw3))
  have HX3 : RowKit.Hid (Below w.heap.size w W3) := Lib.hid (bel_bl HX2.out hw3)
  clear hw3 ld0 ld1 ld2
  go_wp2
  go_ret
  exact ⟨g2, rfl, HGe.out, HS.out, HX3.out⟩
end Go.Proofs.Ythfngmlnmpbcpaa
