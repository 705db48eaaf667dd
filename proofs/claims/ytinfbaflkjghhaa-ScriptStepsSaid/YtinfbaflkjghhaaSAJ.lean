/- Several texts in one. -/
import Derived.Test.YtinfbaflkjghhaaSAA
import Derived.Test.YtinfbaflkjghhaaSAI
import Derived.Deep.CutBlock
import Derived.Test.YtinfbaflkjghhaaShelf
import Derived.Test.YtinfbaflkjghhaaSAG
/- Rows of steps, and the document's Same of them. -/
set_option linter.unusedSimpArgs false
set_option linter.unusedVariables false
namespace Go.Proofs.Ytinfbaflkjghhaa
open Go.RowKit
/-- A step as it stands in memory. -/
structure StOk (W : World) (s : StT) : Prop where
  ops : RdS W W.heap.size 20 s.2.1 s.2.2.1 s.2.2.2.1 (rowsV opCells s.2.2.2.2)
  few : s.2.2.1 ≤ 1000000
  txt : ∀ o ∈ s.2.2.2.2, o.t.size ≤ maxLen
  hd : In4 s.1
theorem StOk.bl {W W' : World} {s : StT} (h : StOk W s) (hb : Below W.heap.size W W') : StOk W' s := ⟨h.ops.bl hb, h.few, h.txt, h.hd⟩
structure StRd (W : World) (A : Option Addr) (n c : Nat) (Ls : List StT) : Prop where
  row : RdS W W.heap.size 5 A n c (rowsV stC Ls)
  each : ∀ s ∈ Ls, StOk W s
theorem StRd.bl {W W' : World} {A : Option Addr} {n c : Nat} {Ls : List StT} (h : StRd W A n c Ls) (hb : Below W.heap.size W W') : StRd W' A n c Ls := ⟨h.row.bl hb, fun s hs => (h.each s hs).bl hb⟩
theorem map_take_snoc {α β : Type} (f : α → β) {L M : List α} {j : Nat} {x y : α} (hx : L[j]? = some x) (hy : M[j]? = some y) (h : (L.take j).map f = (M.take j).map f) (e : f x = f y) : (L.take (j + 1)).map f = (M.take (j + 1)).map f := by
  rw [List.take_add_one, List.take_add_one, hx, hy, List.map_append, List.map_append, h]
  simp [e]
theorem map_ne_at {α β : Type} (f : α → β) {L M : List α} {j : Nat} {x y : α} (hx : L[j]? = some x) (hy : M[j]? = some y) (e : ¬ f x = f y) : ¬ L.map f = M.map f := fun q => e (by
  have := congrArg (fun l => l[j]?) q
  simpa [hx, hy] using this)
set_option maxRecDepth 100000 in
set_option maxHeartbeats 4000000 in
theorem rsame23_any (A : Option Addr) (n c : Nat) (Ls : List StT) (A' : Option Addr) (n' c' : Nat) (Ms : List StT) (w : World) (h : StRd w A n c Ls) (h' : StRd w A' n' c' Ms) (hn : n ≤ 1000000) :
    Calls Try.prog 12 #[.slice A n c, .slice A' n' c'] w fun e w' => e = .returned (.bool (decide (Ls.map sdT = Ms.map sdT))) ∧ Below w.heap.size w w' := by
  have H := Lib.hid h
  have H' := Lib.hid h'
  have Hl := Lib.hid (h.row.rlen stC_len (by decide))
  have Hl' := Lib.hid (h'.row.rlen stC_len (by decide))
  have HB0 : RowKit.Hid (Below w.heap.size w w) := Lib.hid (Below.refl _ _)
  clear h h'
  by_cases hnn : n = n'
  · subst hnn
    obtain ⟨R, gR⟩ : ∃ z, decide (Ls.map sdT = Ms.map sdT) = z := ⟨_, rfl⟩
    have Hdec := Lib.hid gR
    rw [gR]
    clear gR
    go_enter Try.func12, Try.ntmps12
    go_wp2
    go_loopw [5] (fun si wr => ∃ j : Nat, j ≤ n ∧ si = .int .i64 j ∧ RowKit.Hid (Below w.heap.size w wr) ∧ RowKit.Hid ((Ls.take j).map sdT = (Ms.take j).map sdT)) (fun si _ => n - (intOf si).toNat)
    case atStart => exact ⟨0, by omega, rfl, HB0, Lib.hid rfl⟩
    case round =>
      clear HB0
      obtain ⟨j, hj, rfl, HB, HP⟩ := hrel
      obtain ⟨wo, gwo⟩ : ∃ z, wr = z := ⟨_, rfl⟩
      rw [gwo] at HB ⊢
      clear gwo
      by_cases hjn : j < n
      · obtain ⟨x, hx⟩ : ∃ x, Ls[j]? = some x := ⟨_, List.getElem?_eq_getElem (by have := Hl.out; omega)⟩
        obtain ⟨y, hy⟩ : ∃ y, Ms[j]? = some y := ⟨_, List.getElem?_eq_getElem (by have := Hl'.out; omega)⟩
        have hox := (H.out.each x (List.mem_of_getElem? hx)).bl HB.out
        have hoy := (H'.out.each y (List.mem_of_getElem? hy)).bl HB.out
        obtain ⟨bb, off, rfl, hbB, hpl⟩ := (H.out.row.bl HB.out).place stC_len (by decide) (by omega)
        obtain ⟨bb2, off2, rfl, hbB2, hpl2⟩ := (H'.out.row.bl HB.out).place stC_len (by decide) (by omega)
        obtain ⟨⟨k1, k2, k3, k4⟩, Ax, nx, cx, La⟩ := x
        obtain ⟨⟨l1, l2, l3, l4⟩, Ay, ny, cy, Lb⟩ := y
        have a0 := hpl j _ hx 0 _ rfl
        have a1 := hpl j _ hx 1 _ rfl
        have a2 := hpl j _ hx 2 _ rfl
        have a3 := hpl j _ hx 3 _ rfl
        have a4 := hpl j _ hx 4 _ rfl
        have b0 := hpl2 j _ hy 0 _ rfl
        have b1 := hpl2 j _ hy 1 _ rfl
        have b2 := hpl2 j _ hy 2 _ rfl
        have b3 := hpl2 j _ hy 3 _ rfl
        have b4 := hpl2 j _ hy 4 _ rfl
        simp only [Addr.add_lit, Nat.add_zero] at a0 a1 a2 a3 a4 b0 b1 b2 b3 b4
        have HSm : RowKit.Hid (∀ w', Ext wo.drew w' → Calls Try.prog 24 #[.agg #[.slice Ax nx cx], .agg #[.slice Ay ny cy]] w' fun e w'' => e = .returned (.bool (decide (La = Lb))) ∧ Below w'.heap.size w' w'') := Lib.hid (fun w' hw' => rsame_any Ax Ay nx ny cx cy La Lb w' ((hox.ops.bl (bel_dr (Below.refl wo.heap.size wo))).bl hw') ((hoy.ops.bl (bel_dr (Below.refl wo.heap.size wo))).bl hw') (by have h9 : nx ≤ 1000000 := hox.few; unfold maxLen; omega))
        have HX := Lib.hid hx
        have HY := Lib.hid hy
        have hltI : (j : Int) < (n : Int) := by omega
        clear hx hy hpl hpl2 hox hoy
        go_upto_region 6 with fail
        have ld0 : ∀ w', Kept Nil_ wo.drew w' → w'.cell? ⟨bb, off + j * 5 + 4, none⟩ = some (.slice Ax nx cx) := fun w' h => h.nil_cell a4
        have ld1 : ∀ w', Kept Nil_ wo.drew w' → w'.cell? ⟨bb2, off2 + j * 5 + 4, none⟩ = some (.slice Ay ny cy) := fun w' h => h.nil_cell b4
        obtain ⟨eo', geo⟩ : ∃ z, decide (La = Lb) = z := ⟨_, rfl⟩
        rw [geo] at HSm
        have Geo := Lib.hid geo
        clear geo
        refine wp_region_reg (Nil_) (by kernel_rfl) ?_
        refine opR_ 0 18 (v := ?_) ?_ ?_; rotate_left
        · intro w' hw'; go_simp; (try with_reducible rfl)
        simp only [st0_, st1_]
        refine opR_ 1 19 (v := ?_) ?_ ?_; rotate_left
        · intro w' hw'; go_simp; (try with_reducible rfl)
        simp only [st0_, st1_]
        refine opR_ 2 20 (v := ?_) ?_ ?_; rotate_left
        · intro w' hw'; go_simp; (try with_reducible rfl)
        simp only [st0_, st1_]
        refine opR_ 3 21 (v := ?_) ?_ ?_; rotate_left
        · intro w' hw'; go_simp; (try with_reducible rfl)
        simp only [st0_, st1_]
        refine opR_ 4 22 (v := ?_) ?_ ?_; rotate_left
        · intro w' hw'; go_simp; (try with_reducible rfl)
        simp only [st0_, st1_]
        refine opR_ 5 23 (v := ?_) ?_ ?_; rotate_left
        · intro w' hw'; go_simp; (try with_reducible rfl)
        simp only [st0_, st1_]
        refine opR_ 6 24 (v := ?_) ?_ ?_; rotate_left
        · intro w' hw'; go_simp; (try with_reducible rfl)
        simp only [st0_, st1_]
        refine opR_ 7 25 (v := ?_) ?_ ?_; rotate_left
        · intro w' hw'; go_simp; (try with_reducible rfl)
        simp only [st0_, st1_]
        refine opR_ 8 26 (v := ?_) ?_ ?_; rotate_left
        · intro w' hw'; go_simp; (try with_reducible rfl)
        simp only [st0_, st1_]
        refine opR_ 9 27 (v := ?_) ?_ ?_; rotate_left
        · intro w' hw'; go_simp; (try with_reducible rfl)
        simp only [st0_, st1_]
        refine opX_ 10 28 ?_
        apply Exists.intro
        apply And.intro
        · apply yr_call; rfl; rotate_left; intro w' hw'; exact HSm.out w' (hw'.ext_nil); intro w'; go_simp
        simp only [st0_, st1_]
        refine opR_ 11 6 (v := ?_) ?_ ?_; rotate_left
        · intro w' hw'; go_simp; (try with_reducible rfl)
        simp only [st0_, st1_]
        refine wpR_done (by kernel_rfl) ?_ _
        intro W3 hw3
        have hw4 := bel_bl (bel_dr (Below.refl wo.heap.size wo)) hw3
        have HB3 := Lib.hid (bel_bl HB.out hw4)
        have HbB := Lib.hid (show bb < wo.heap.size from hbB)
        have HbB2 := Lib.hid (show bb2 < wo.heap.size from hbB2)
        replace a0 := (hw4.cell (p := ⟨bb, off + j * 5, none⟩) HbB.out).trans a0
        replace a1 := (hw4.cell (p := ⟨bb, off + j * 5 + 1, none⟩) HbB.out).trans a1
        replace a2 := (hw4.cell (p := ⟨bb, off + j * 5 + 2, none⟩) HbB.out).trans a2
        replace a3 := (hw4.cell (p := ⟨bb, off + j * 5 + 3, none⟩) HbB.out).trans a3
        replace b0 := (hw4.cell (p := ⟨bb2, off2 + j * 5, none⟩) HbB2.out).trans b0
        replace b1 := (hw4.cell (p := ⟨bb2, off2 + j * 5 + 1, none⟩) HbB2.out).trans b1
        replace b2 := (hw4.cell (p := ⟨bb2, off2 + j * 5 + 2, none⟩) HbB2.out).trans b2
        replace b3 := (hw4.cell (p := ⟨bb2, off2 + j * 5 + 3, none⟩) HbB2.out).trans b3
        clear hw3 hw4 HB a4 b4 ld0 ld1 HSm hbB hbB2 HbB HbB2
        obtain ⟨wq, gwq⟩ : ∃ z, W3 = z := ⟨_, rfl⟩
        rw [gwq] at HB3 a0 a1 a2 a3 b0 b1 b2 b3 ⊢
        clear gwq
        go_upto_region 7 with fail
        have la0 : ∀ w', Kept Nil_ wq.drew w' → w'.cell? ⟨bb, off + j * 5, none⟩ = some (.int .i64 k1) := fun w' h => h.nil_cell (a0)
        have la1 : ∀ w', Kept Nil_ wq.drew w' → w'.cell? ⟨bb, off + j * 5 + 1, none⟩ = some (.int .i64 k2) := fun w' h => h.nil_cell (a1)
        have la2 : ∀ w', Kept Nil_ wq.drew w' → w'.cell? ⟨bb, off + j * 5 + 2, none⟩ = some (.int .i64 k3) := fun w' h => h.nil_cell (a2)
        have la3 : ∀ w', Kept Nil_ wq.drew w' → w'.cell? ⟨bb, off + j * 5 + 3, none⟩ = some (.int .i64 k4) := fun w' h => h.nil_cell (a3)
        have lb0 : ∀ w', Kept Nil_ wq.drew w' → w'.cell? ⟨bb2, off2 + j * 5, none⟩ = some (.int .i64 l1) := fun w' h => h.nil_cell (b0)
        have lb1 : ∀ w', Kept Nil_ wq.drew w' → w'.cell? ⟨bb2, off2 + j * 5 + 1, none⟩ = some (.int .i64 l2) := fun w' h => h.nil_cell (b1)
        have lb2 : ∀ w', Kept Nil_ wq.drew w' → w'.cell? ⟨bb2, off2 + j * 5 + 2, none⟩ = some (.int .i64 l3) := fun w' h => h.nil_cell (b2)
        have lb3 : ∀ w', Kept Nil_ wq.drew w' → w'.cell? ⟨bb2, off2 + j * 5 + 3, none⟩ = some (.int .i64 l4) := fun w' h => h.nil_cell (b3)
        clear a0 a1 a2 a3 b0 b1 b2 b3
        by_cases e0 : k1 = l1
        · by_cases e1 : k2 = l2
          · by_cases e2 : k3 = l3
            · by_cases e3 : k4 = l4
              · by_cases eo : La = Lb
                · obtain rfl : true = eo' := (decide_eq_true eo).symm.trans Geo.out
                  have q0 : ((k1 : Int) != l1) = false := by rw [e0]; exact bne_self_eq_false _
                  have q1 : ((k2 : Int) != l2) = false := by rw [e1]; exact bne_self_eq_false _
                  have q2 : ((k3 : Int) != l3) = false := by rw [e2]; exact bne_self_eq_false _
                  have q3 : ((k4 : Int) != l4) = false := by rw [e3]; exact bne_self_eq_false _
                  have HP2 : RowKit.Hid ((Ls.take (j + 1)).map sdT = (Ms.take (j + 1)).map sdT) := Lib.hid (map_take_snoc sdT HX.out HY.out HP.out (by show ((k1, k2, k3, k4), La) = ((l1, l2, l3, l4), Lb); rw [e0, e1, e2, e3, eo]))
                  clear e0 e1 e2 e3 eo
                  refine wp_region_reg (Nil_) (by kernel_rfl) ?_
                  refine opR_ 0 29 (v := ?_) ?_ ?_; rotate_left
                  · intro w' hw'; go_simp; (try with_reducible rfl)
                  simp only [st0_, st1_]
                  refine opR_ 1 30 (v := ?_) ?_ ?_; rotate_left
                  · intro w' hw'; go_simp; (try with_reducible rfl)
                  simp only [st0_, st1_]
                  refine opR_ 2 31 (v := ?_) ?_ ?_; rotate_left
                  · intro w' hw'; go_simp; (try with_reducible rfl)
                  simp only [st0_, st1_]
                  refine opR_ 3 32 (v := ?_) ?_ ?_; rotate_left
                  · intro w' hw'; go_simp; (try with_reducible rfl)
                  simp only [st0_, st1_]
                  refine opR_ 4 33 (v := ?_) ?_ ?_; rotate_left
                  · intro w' hw'; go_simp; (try with_reducible rfl)
                  simp only [st0_, st1_]
                  refine opR_ 5 34 (v := ?_) ?_ ?_; rotate_left
                  · intro w' hw'; go_simp; (try with_reducible rfl)
                  simp only [st0_, st1_]
                  refine opR_ 6 35 (v := ?_) ?_ ?_; rotate_left
                  · intro w' hw'; go_simp; (try with_reducible rfl)
                  simp only [st0_, st1_]
                  refine opR_ 7 36 (v := ?_) ?_ ?_; rotate_left
                  · intro w' hw'; go_simp; (try with_reducible rfl)
                  simp only [st0_, st1_]
                  refine opR_ 8 37 (v := ?_) ?_ ?_; rotate_left
                  · intro w' hw'; go_simp; (try with_reducible rfl)
                  simp only [st0_, st1_]
                  refine opR_ 9 38 (v := ?_) ?_ ?_; rotate_left
                  · intro w' hw'; go_simp; (try with_reducible rfl)
                  simp only [st0_, st1_]
                  refine opR_ 10 39 (v := ?_) ?_ ?_; rotate_left
                  · intro w' hw'; go_simp; (try with_reducible rfl)
                  simp only [st0_, st1_]
                  refine opR_ 11 40 (v := ?_) ?_ ?_; rotate_left
                  · intro w' hw'; go_simp; (try with_reducible rfl)
                  simp only [st0_, st1_]
                  refine opR_ 12 41 (v := ?_) ?_ ?_; rotate_left
                  · intro w' hw'; go_simp; (try with_reducible rfl)
                  simp only [st0_, st1_]
                  refine opR_ 13 42 (v := ?_) ?_ ?_; rotate_left
                  · intro w' hw'; go_simp; (try with_reducible rfl)
                  simp only [st0_, st1_]
                  refine opR_ 14 43 (v := ?_) ?_ ?_; rotate_left
                  · intro w' hw'; go_simp; (try with_reducible rfl)
                  simp only [st0_, st1_]
                  refine opR_ 15 44 (v := ?_) ?_ ?_; rotate_left
                  · intro w' hw'; go_simp; (try with_reducible rfl)
                  simp only [st0_, st1_]
                  refine opR_ 16 45 (v := ?_) ?_ ?_; rotate_left
                  · intro w' hw'; go_simp; (try with_reducible rfl)
                  simp only [st0_, st1_]
                  refine opR_ 17 46 (v := ?_) ?_ ?_; rotate_left
                  · intro w' hw'; go_simp; (try with_reducible rfl)
                  simp only [st0_, st1_]
                  refine opR_ 18 47 (v := ?_) ?_ ?_; rotate_left
                  · intro w' hw'; go_simp; (try with_reducible rfl)
                  simp only [st0_, st1_]
                  refine opR_ 19 48 (v := ?_) ?_ ?_; rotate_left
                  · intro w' hw'; go_simp; (try with_reducible rfl)
                  simp only [st0_, st1_]
                  refine opR_ 20 49 (v := ?_) ?_ ?_; rotate_left
                  · intro w' hw'; go_simp; (try with_reducible rfl)
                  simp only [st0_, st1_]
                  refine opR_ 21 50 (v := ?_) ?_ ?_; rotate_left
                  · intro w' hw'; go_simp; (try with_reducible rfl)
                  simp only [st0_, st1_]
                  refine opR_ 22 51 (v := ?_) ?_ ?_; rotate_left
                  · intro w' hw'; go_simp; (try with_reducible rfl)
                  simp only [st0_, st1_]
                  refine opR_ 23 52 (v := ?_) ?_ ?_; rotate_left
                  · intro w' hw'; go_simp; (try with_reducible rfl)
                  simp only [st0_, st1_]
                  refine opR_ 24 53 (v := ?_) ?_ ?_; rotate_left
                  · intro w' hw'; go_simp; (try with_reducible rfl)
                  simp only [st0_, st1_]
                  refine opR_ 25 54 (v := ?_) ?_ ?_; rotate_left
                  · intro w' hw'; go_simp; (try with_reducible rfl)
                  simp only [st0_, st1_]
                  refine opR_ 26 55 (v := ?_) ?_ ?_; rotate_left
                  · intro w' hw'; go_simp; (try with_reducible rfl)
                  simp only [st0_, st1_]
                  refine opR_ 27 56 (v := ?_) ?_ ?_; rotate_left
                  · intro w' hw'; go_simp; (try with_reducible rfl)
                  simp only [st0_, st1_]
                  refine opR_ 28 57 (v := ?_) ?_ ?_; rotate_left
                  · intro w' hw'; go_simp; (try with_reducible rfl)
                  simp only [st0_, st1_]
                  refine opR_ 29 58 (v := ?_) ?_ ?_; rotate_left
                  · intro w' hw'; go_simp; (try with_reducible rfl)
                  simp only [st0_, st1_]
                  refine opR_ 30 59 (v := ?_) ?_ ?_; rotate_left
                  · intro w' hw'; go_simp; (try with_reducible rfl)
                  simp only [st0_, st1_]
                  refine opR_ 31 60 (v := ?_) ?_ ?_; rotate_left
                  · intro w' hw'; go_simp; (try with_reducible rfl)
                  simp only [st0_, st1_]
                  refine opR_ 32 61 (v := ?_) ?_ ?_; rotate_left
                  · intro w' hw'; go_simp; (try with_reducible rfl)
                  simp only [st0_, st1_]
                  refine opR_ 33 62 (v := ?_) ?_ ?_; rotate_left
                  · intro w' hw'; go_simp; (try with_reducible rfl)
                  simp only [st0_, st1_]
                  refine opR_ 34 63 (v := ?_) ?_ ?_; rotate_left
                  · intro w' hw'; go_simp; (try with_reducible rfl)
                  simp only [st0_, st1_]
                  refine opR_ 35 64 (v := ?_) ?_ ?_; rotate_left
                  · intro w' hw'; go_simp; (try with_reducible rfl)
                  simp only [st0_, st1_]
                  refine opR_ 36 65 (v := ?_) ?_ ?_; rotate_left
                  · intro w' hw'; go_simp; (try with_reducible rfl)
                  simp only [st0_, st1_]
                  refine opR_ 37 66 (v := ?_) ?_ ?_; rotate_left
                  · intro w' hw'; go_simp; (try with_reducible rfl)
                  simp only [st0_, st1_]
                  refine opR_ 38 67 (v := ?_) ?_ ?_; rotate_left
                  · intro w' hw'; go_simp; (try with_reducible rfl)
                  simp only [st0_, st1_]
                  refine opR_ 39 68 (v := ?_) ?_ ?_; rotate_left
                  · intro w' hw'; go_simp; (try with_reducible rfl)
                  simp only [st0_, st1_]
                  refine opR_ 40 69 (v := ?_) ?_ ?_; rotate_left
                  · intro w' hw'; go_simp; (try with_reducible rfl)
                  simp only [st0_, st1_]
                  refine opR_ 41 70 (v := ?_) ?_ ?_; rotate_left
                  · intro w' hw'; go_simp; (try with_reducible rfl)
                  simp only [st0_, st1_]
                  refine opR_ 42 71 (v := ?_) ?_ ?_; rotate_left
                  · intro w' hw'; go_simp; (try with_reducible rfl)
                  simp only [st0_, st1_]
                  refine opR_ 43 72 (v := ?_) ?_ ?_; rotate_left
                  · intro w' hw'; go_simp; (try with_reducible rfl)
                  simp only [st0_, st1_]
                  refine opR_ 44 73 (v := ?_) ?_ ?_; rotate_left
                  · intro w' hw'; go_simp; (try with_reducible rfl)
                  simp only [st0_, st1_]
                  refine opR_ 45 74 (v := ?_) ?_ ?_; rotate_left
                  · intro w' hw'; go_simp; (try with_reducible rfl)
                  simp only [st0_, st1_]
                  refine opR_ 46 75 (v := ?_) ?_ ?_; rotate_left
                  · intro w' hw'; go_simp; (try with_reducible rfl)
                  simp only [st0_, st1_]
                  refine opR_ 47 76 (v := ?_) ?_ ?_; rotate_left
                  · intro w' hw'; go_simp; (try with_reducible rfl)
                  simp only [st0_, st1_]
                  refine opR_ 48 77 (v := ?_) ?_ ?_; rotate_left
                  · intro w' hw'; go_simp; (try with_reducible rfl)
                  simp only [st0_, st1_]
                  refine opR_ 49 78 (v := ?_) ?_ ?_; rotate_left
                  · intro w' hw'; go_simp; (try with_reducible rfl)
                  simp only [st0_, st1_]
                  refine opR_ 50 79 (v := ?_) ?_ ?_; rotate_left
                  · intro w' hw'; go_simp; (try with_reducible rfl)
                  simp only [st0_, st1_]
                  refine opR_ 51 80 (v := ?_) ?_ ?_; rotate_left
                  · intro w' hw'; go_simp; (try with_reducible rfl)
                  simp only [st0_, st1_]
                  refine opR_ 52 81 (v := ?_) ?_ ?_; rotate_left
                  · intro w' hw'; go_simp; (try with_reducible rfl)
                  simp only [st0_, st1_]
                  refine opR_ 53 82 (v := ?_) ?_ ?_; rotate_left
                  · intro w' hw'; go_simp; (try with_reducible rfl)
                  simp only [st0_, st1_]
                  refine wpR_done (by kernel_rfl) ?_ _
                  intro W9 hw9
                  have HBz := Lib.hid (bel_bl HB3.out (bel_bl (bel_dr (Below.refl wq.heap.size wq)) hw9))
                  clear hw9 q0 q1 q2 q3 la0 la1 la2 la3 lb0 lb1 lb2 lb3 HB3
                  go_wp2
                  go_roundw
                  case rel => exact ⟨j + 1, by omega, by go_num, HBz, HP2⟩
                  case measure => simp [intOf]; omega
                · obtain rfl : false = eo' := (decide_eq_false eo).symm.trans Geo.out
                  have q0 : ((k1 : Int) != l1) = false := by rw [e0]; exact bne_self_eq_false _
                  have q1 : ((k2 : Int) != l2) = false := by rw [e1]; exact bne_self_eq_false _
                  have q2 : ((k3 : Int) != l3) = false := by rw [e2]; exact bne_self_eq_false _
                  have q3 : ((k4 : Int) != l4) = false := by rw [e3]; exact bne_self_eq_false _
                  have Hno : RowKit.Hid (R = false) := Lib.hid (Hdec.out.symm.trans (decide_eq_false (map_ne_at sdT HX.out HY.out (fun q => eo (by have := congrArg (fun z : SD => z.2) q; exact this)))))
                  clear e0 e1 e2 e3 eo
                  refine wp_region_reg (Nil_) (by kernel_rfl) ?_
                  refine opR_ 0 29 (v := ?_) ?_ ?_; rotate_left
                  · intro w' hw'; go_simp; (try with_reducible rfl)
                  simp only [st0_, st1_]
                  refine opR_ 1 30 (v := ?_) ?_ ?_; rotate_left
                  · intro w' hw'; go_simp; (try with_reducible rfl)
                  simp only [st0_, st1_]
                  refine opR_ 2 31 (v := ?_) ?_ ?_; rotate_left
                  · intro w' hw'; go_simp; (try with_reducible rfl)
                  simp only [st0_, st1_]
                  refine opR_ 3 32 (v := ?_) ?_ ?_; rotate_left
                  · intro w' hw'; go_simp; (try with_reducible rfl)
                  simp only [st0_, st1_]
                  refine opR_ 4 33 (v := ?_) ?_ ?_; rotate_left
                  · intro w' hw'; go_simp; (try with_reducible rfl)
                  simp only [st0_, st1_]
                  refine opR_ 5 34 (v := ?_) ?_ ?_; rotate_left
                  · intro w' hw'; go_simp; (try with_reducible rfl)
                  simp only [st0_, st1_]
                  refine opR_ 6 35 (v := ?_) ?_ ?_; rotate_left
                  · intro w' hw'; go_simp; (try with_reducible rfl)
                  simp only [st0_, st1_]
                  refine opR_ 7 36 (v := ?_) ?_ ?_; rotate_left
                  · intro w' hw'; go_simp; (try with_reducible rfl)
                  simp only [st0_, st1_]
                  refine opR_ 8 37 (v := ?_) ?_ ?_; rotate_left
                  · intro w' hw'; go_simp; (try with_reducible rfl)
                  simp only [st0_, st1_]
                  refine opR_ 9 38 (v := ?_) ?_ ?_; rotate_left
                  · intro w' hw'; go_simp; (try with_reducible rfl)
                  simp only [st0_, st1_]
                  refine opR_ 10 39 (v := ?_) ?_ ?_; rotate_left
                  · intro w' hw'; go_simp; (try with_reducible rfl)
                  simp only [st0_, st1_]
                  refine opR_ 11 40 (v := ?_) ?_ ?_; rotate_left
                  · intro w' hw'; go_simp; (try with_reducible rfl)
                  simp only [st0_, st1_]
                  refine opR_ 12 41 (v := ?_) ?_ ?_; rotate_left
                  · intro w' hw'; go_simp; (try with_reducible rfl)
                  simp only [st0_, st1_]
                  refine opR_ 13 42 (v := ?_) ?_ ?_; rotate_left
                  · intro w' hw'; go_simp; (try with_reducible rfl)
                  simp only [st0_, st1_]
                  refine opR_ 14 43 (v := ?_) ?_ ?_; rotate_left
                  · intro w' hw'; go_simp; (try with_reducible rfl)
                  simp only [st0_, st1_]
                  refine opR_ 15 44 (v := ?_) ?_ ?_; rotate_left
                  · intro w' hw'; go_simp; (try with_reducible rfl)
                  simp only [st0_, st1_]
                  refine opR_ 16 45 (v := ?_) ?_ ?_; rotate_left
                  · intro w' hw'; go_simp; (try with_reducible rfl)
                  simp only [st0_, st1_]
                  refine opR_ 17 46 (v := ?_) ?_ ?_; rotate_left
                  · intro w' hw'; go_simp; (try with_reducible rfl)
                  simp only [st0_, st1_]
                  refine opR_ 18 47 (v := ?_) ?_ ?_; rotate_left
                  · intro w' hw'; go_simp; (try with_reducible rfl)
                  simp only [st0_, st1_]
                  refine opR_ 19 48 (v := ?_) ?_ ?_; rotate_left
                  · intro w' hw'; go_simp; (try with_reducible rfl)
                  simp only [st0_, st1_]
                  refine opR_ 20 49 (v := ?_) ?_ ?_; rotate_left
                  · intro w' hw'; go_simp; (try with_reducible rfl)
                  simp only [st0_, st1_]
                  refine opR_ 21 50 (v := ?_) ?_ ?_; rotate_left
                  · intro w' hw'; go_simp; (try with_reducible rfl)
                  simp only [st0_, st1_]
                  refine opR_ 22 51 (v := ?_) ?_ ?_; rotate_left
                  · intro w' hw'; go_simp; (try with_reducible rfl)
                  simp only [st0_, st1_]
                  refine opR_ 23 52 (v := ?_) ?_ ?_; rotate_left
                  · intro w' hw'; go_simp; (try with_reducible rfl)
                  simp only [st0_, st1_]
                  refine opR_ 24 53 (v := ?_) ?_ ?_; rotate_left
                  · intro w' hw'; go_simp; (try with_reducible rfl)
                  simp only [st0_, st1_]
                  refine opR_ 25 54 (v := ?_) ?_ ?_; rotate_left
                  · intro w' hw'; go_simp; (try with_reducible rfl)
                  simp only [st0_, st1_]
                  refine opR_ 26 55 (v := ?_) ?_ ?_; rotate_left
                  · intro w' hw'; go_simp; (try with_reducible rfl)
                  simp only [st0_, st1_]
                  refine opR_ 27 56 (v := ?_) ?_ ?_; rotate_left
                  · intro w' hw'; go_simp; (try with_reducible rfl)
                  simp only [st0_, st1_]
                  refine opR_ 28 57 (v := ?_) ?_ ?_; rotate_left
                  · intro w' hw'; go_simp; (try with_reducible rfl)
                  simp only [st0_, st1_]
                  refine opR_ 29 58 (v := ?_) ?_ ?_; rotate_left
                  · intro w' hw'; go_simp; (try with_reducible rfl)
                  simp only [st0_, st1_]
                  refine opR_ 30 59 (v := ?_) ?_ ?_; rotate_left
                  · intro w' hw'; go_simp; (try with_reducible rfl)
                  simp only [st0_, st1_]
                  refine opR_ 31 60 (v := ?_) ?_ ?_; rotate_left
                  · intro w' hw'; go_simp; (try with_reducible rfl)
                  simp only [st0_, st1_]
                  refine opR_ 32 61 (v := ?_) ?_ ?_; rotate_left
                  · intro w' hw'; go_simp; (try with_reducible rfl)
                  simp only [st0_, st1_]
                  refine opR_ 33 62 (v := ?_) ?_ ?_; rotate_left
                  · intro w' hw'; go_simp; (try with_reducible rfl)
                  simp only [st0_, st1_]
                  refine opR_ 34 63 (v := ?_) ?_ ?_; rotate_left
                  · intro w' hw'; go_simp; (try with_reducible rfl)
                  simp only [st0_, st1_]
                  refine opR_ 35 64 (v := ?_) ?_ ?_; rotate_left
                  · intro w' hw'; go_simp; (try with_reducible rfl)
                  simp only [st0_, st1_]
                  refine opR_ 36 65 (v := ?_) ?_ ?_; rotate_left
                  · intro w' hw'; go_simp; (try with_reducible rfl)
                  simp only [st0_, st1_]
                  refine opR_ 37 66 (v := ?_) ?_ ?_; rotate_left
                  · intro w' hw'; go_simp; (try with_reducible rfl)
                  simp only [st0_, st1_]
                  refine opR_ 38 67 (v := ?_) ?_ ?_; rotate_left
                  · intro w' hw'; go_simp; (try with_reducible rfl)
                  simp only [st0_, st1_]
                  refine opR_ 39 68 (v := ?_) ?_ ?_; rotate_left
                  · intro w' hw'; go_simp; (try with_reducible rfl)
                  simp only [st0_, st1_]
                  refine opR_ 40 69 (v := ?_) ?_ ?_; rotate_left
                  · intro w' hw'; go_simp; (try with_reducible rfl)
                  simp only [st0_, st1_]
                  refine opR_ 41 70 (v := ?_) ?_ ?_; rotate_left
                  · intro w' hw'; go_simp; (try with_reducible rfl)
                  simp only [st0_, st1_]
                  refine opR_ 42 71 (v := ?_) ?_ ?_; rotate_left
                  · intro w' hw'; go_simp; (try with_reducible rfl)
                  simp only [st0_, st1_]
                  refine opR_ 43 72 (v := ?_) ?_ ?_; rotate_left
                  · intro w' hw'; go_simp; (try with_reducible rfl)
                  simp only [st0_, st1_]
                  refine opR_ 44 73 (v := ?_) ?_ ?_; rotate_left
                  · intro w' hw'; go_simp; (try with_reducible rfl)
                  simp only [st0_, st1_]
                  refine opR_ 45 74 (v := ?_) ?_ ?_; rotate_left
                  · intro w' hw'; go_simp; (try with_reducible rfl)
                  simp only [st0_, st1_]
                  refine opR_ 46 75 (v := ?_) ?_ ?_; rotate_left
                  · intro w' hw'; go_simp; (try with_reducible rfl)
                  simp only [st0_, st1_]
                  refine opR_ 47 76 (v := ?_) ?_ ?_; rotate_left
                  · intro w' hw'; go_simp; (try with_reducible rfl)
                  simp only [st0_, st1_]
                  refine opR_ 48 77 (v := ?_) ?_ ?_; rotate_left
                  · intro w' hw'; go_simp; (try with_reducible rfl)
                  simp only [st0_, st1_]
                  refine opR_ 49 78 (v := ?_) ?_ ?_; rotate_left
                  · intro w' hw'; go_simp; (try with_reducible rfl)
                  simp only [st0_, st1_]
                  refine opR_ 50 79 (v := ?_) ?_ ?_; rotate_left
                  · intro w' hw'; go_simp; (try with_reducible rfl)
                  simp only [st0_, st1_]
                  refine opR_ 51 80 (v := ?_) ?_ ?_; rotate_left
                  · intro w' hw'; go_simp; (try with_reducible rfl)
                  simp only [st0_, st1_]
                  refine opR_ 52 81 (v := ?_) ?_ ?_; rotate_left
                  · intro w' hw'; go_simp; (try with_reducible rfl)
                  simp only [st0_, st1_]
                  refine opR_ 53 82 (v := ?_) ?_ ?_; rotate_left
                  · intro w' hw'; go_simp; (try with_reducible rfl)
                  simp only [st0_, st1_]
                  refine wpR_done (by kernel_rfl) ?_ _
                  intro W9 hw9
                  have HBz := Lib.hid (bel_bl HB3.out (bel_bl (bel_dr (Below.refl wq.heap.size wq)) hw9))
                  clear hw9 q0 q1 q2 q3 la0 la1 la2 la3 lb0 lb1 lb2 lb3 HB3
                  go_wp2
                  go_ret
                  exact ⟨by rw [Hno.out]; rfl, HBz.out⟩
              · clear Geo
                have q0 : ((k1 : Int) != l1) = false := by rw [e0]; exact bne_self_eq_false _
                have q1 : ((k2 : Int) != l2) = false := by rw [e1]; exact bne_self_eq_false _
                have q2 : ((k3 : Int) != l3) = false := by rw [e2]; exact bne_self_eq_false _
                have q3 : ((k4 : Int) != l4) = true := bne_iff_ne.2 e3
                have Hno : RowKit.Hid (R = false) := Lib.hid (Hdec.out.symm.trans (decide_eq_false (map_ne_at sdT HX.out HY.out (fun q => e3 (by have := congrArg (fun z : SD => z.1.2.2.2) q; exact this)))))
                clear e0 e1 e2 e3
                refine wp_region_reg (Nil_) (by kernel_rfl) ?_
                refine opR_ 0 29 (v := ?_) ?_ ?_; rotate_left
                · intro w' hw'; go_simp; (try with_reducible rfl)
                simp only [st0_, st1_]
                refine opR_ 1 30 (v := ?_) ?_ ?_; rotate_left
                · intro w' hw'; go_simp; (try with_reducible rfl)
                simp only [st0_, st1_]
                refine opR_ 2 31 (v := ?_) ?_ ?_; rotate_left
                · intro w' hw'; go_simp; (try with_reducible rfl)
                simp only [st0_, st1_]
                refine opR_ 3 32 (v := ?_) ?_ ?_; rotate_left
                · intro w' hw'; go_simp; (try with_reducible rfl)
                simp only [st0_, st1_]
                refine opR_ 4 33 (v := ?_) ?_ ?_; rotate_left
                · intro w' hw'; go_simp; (try with_reducible rfl)
                simp only [st0_, st1_]
                refine opR_ 5 34 (v := ?_) ?_ ?_; rotate_left
                · intro w' hw'; go_simp; (try with_reducible rfl)
                simp only [st0_, st1_]
                refine opR_ 6 35 (v := ?_) ?_ ?_; rotate_left
                · intro w' hw'; go_simp; (try with_reducible rfl)
                simp only [st0_, st1_]
                refine opR_ 7 36 (v := ?_) ?_ ?_; rotate_left
                · intro w' hw'; go_simp; (try with_reducible rfl)
                simp only [st0_, st1_]
                refine opR_ 8 37 (v := ?_) ?_ ?_; rotate_left
                · intro w' hw'; go_simp; (try with_reducible rfl)
                simp only [st0_, st1_]
                refine opR_ 9 38 (v := ?_) ?_ ?_; rotate_left
                · intro w' hw'; go_simp; (try with_reducible rfl)
                simp only [st0_, st1_]
                refine opR_ 10 39 (v := ?_) ?_ ?_; rotate_left
                · intro w' hw'; go_simp; (try with_reducible rfl)
                simp only [st0_, st1_]
                refine opR_ 11 40 (v := ?_) ?_ ?_; rotate_left
                · intro w' hw'; go_simp; (try with_reducible rfl)
                simp only [st0_, st1_]
                refine opR_ 12 41 (v := ?_) ?_ ?_; rotate_left
                · intro w' hw'; go_simp; (try with_reducible rfl)
                simp only [st0_, st1_]
                refine opR_ 13 42 (v := ?_) ?_ ?_; rotate_left
                · intro w' hw'; go_simp; (try with_reducible rfl)
                simp only [st0_, st1_]
                refine opR_ 14 43 (v := ?_) ?_ ?_; rotate_left
                · intro w' hw'; go_simp; (try with_reducible rfl)
                simp only [st0_, st1_]
                refine opR_ 15 44 (v := ?_) ?_ ?_; rotate_left
                · intro w' hw'; go_simp; (try with_reducible rfl)
                simp only [st0_, st1_]
                refine opR_ 16 45 (v := ?_) ?_ ?_; rotate_left
                · intro w' hw'; go_simp; (try with_reducible rfl)
                simp only [st0_, st1_]
                refine opR_ 17 46 (v := ?_) ?_ ?_; rotate_left
                · intro w' hw'; go_simp; (try with_reducible rfl)
                simp only [st0_, st1_]
                refine opR_ 18 47 (v := ?_) ?_ ?_; rotate_left
                · intro w' hw'; go_simp; (try with_reducible rfl)
                simp only [st0_, st1_]
                refine opR_ 19 48 (v := ?_) ?_ ?_; rotate_left
                · intro w' hw'; go_simp; (try with_reducible rfl)
                simp only [st0_, st1_]
                refine opR_ 20 49 (v := ?_) ?_ ?_; rotate_left
                · intro w' hw'; go_simp; (try with_reducible rfl)
                simp only [st0_, st1_]
                refine opR_ 21 50 (v := ?_) ?_ ?_; rotate_left
                · intro w' hw'; go_simp; (try with_reducible rfl)
                simp only [st0_, st1_]
                refine opR_ 22 51 (v := ?_) ?_ ?_; rotate_left
                · intro w' hw'; go_simp; (try with_reducible rfl)
                simp only [st0_, st1_]
                refine opR_ 23 52 (v := ?_) ?_ ?_; rotate_left
                · intro w' hw'; go_simp; (try with_reducible rfl)
                simp only [st0_, st1_]
                refine opR_ 24 53 (v := ?_) ?_ ?_; rotate_left
                · intro w' hw'; go_simp; (try with_reducible rfl)
                simp only [st0_, st1_]
                refine opR_ 25 54 (v := ?_) ?_ ?_; rotate_left
                · intro w' hw'; go_simp; (try with_reducible rfl)
                simp only [st0_, st1_]
                refine opR_ 26 55 (v := ?_) ?_ ?_; rotate_left
                · intro w' hw'; go_simp; (try with_reducible rfl)
                simp only [st0_, st1_]
                refine opR_ 27 56 (v := ?_) ?_ ?_; rotate_left
                · intro w' hw'; go_simp; (try with_reducible rfl)
                simp only [st0_, st1_]
                refine opR_ 28 57 (v := ?_) ?_ ?_; rotate_left
                · intro w' hw'; go_simp; (try with_reducible rfl)
                simp only [st0_, st1_]
                refine opR_ 29 58 (v := ?_) ?_ ?_; rotate_left
                · intro w' hw'; go_simp; (try with_reducible rfl)
                simp only [st0_, st1_]
                refine opR_ 30 59 (v := ?_) ?_ ?_; rotate_left
                · intro w' hw'; go_simp; (try with_reducible rfl)
                simp only [st0_, st1_]
                refine opR_ 31 60 (v := ?_) ?_ ?_; rotate_left
                · intro w' hw'; go_simp; (try with_reducible rfl)
                simp only [st0_, st1_]
                refine opR_ 32 61 (v := ?_) ?_ ?_; rotate_left
                · intro w' hw'; go_simp; (try with_reducible rfl)
                simp only [st0_, st1_]
                refine opR_ 33 62 (v := ?_) ?_ ?_; rotate_left
                · intro w' hw'; go_simp; (try with_reducible rfl)
                simp only [st0_, st1_]
                refine opR_ 34 63 (v := ?_) ?_ ?_; rotate_left
                · intro w' hw'; go_simp; (try with_reducible rfl)
                simp only [st0_, st1_]
                refine opR_ 35 64 (v := ?_) ?_ ?_; rotate_left
                · intro w' hw'; go_simp; (try with_reducible rfl)
                simp only [st0_, st1_]
                refine opR_ 36 65 (v := ?_) ?_ ?_; rotate_left
                · intro w' hw'; go_simp; (try with_reducible rfl)
                simp only [st0_, st1_]
                refine opR_ 37 66 (v := ?_) ?_ ?_; rotate_left
                · intro w' hw'; go_simp; (try with_reducible rfl)
                simp only [st0_, st1_]
                refine opR_ 38 67 (v := ?_) ?_ ?_; rotate_left
                · intro w' hw'; go_simp; (try with_reducible rfl)
                simp only [st0_, st1_]
                refine opR_ 39 68 (v := ?_) ?_ ?_; rotate_left
                · intro w' hw'; go_simp; (try with_reducible rfl)
                simp only [st0_, st1_]
                refine opR_ 40 69 (v := ?_) ?_ ?_; rotate_left
                · intro w' hw'; go_simp; (try with_reducible rfl)
                simp only [st0_, st1_]
                refine opR_ 41 70 (v := ?_) ?_ ?_; rotate_left
                · intro w' hw'; go_simp; (try with_reducible rfl)
                simp only [st0_, st1_]
                refine opR_ 42 71 (v := ?_) ?_ ?_; rotate_left
                · intro w' hw'; go_simp; (try with_reducible rfl)
                simp only [st0_, st1_]
                refine opR_ 43 72 (v := ?_) ?_ ?_; rotate_left
                · intro w' hw'; go_simp; (try with_reducible rfl)
                simp only [st0_, st1_]
                refine opR_ 44 73 (v := ?_) ?_ ?_; rotate_left
                · intro w' hw'; go_simp; (try with_reducible rfl)
                simp only [st0_, st1_]
                refine opR_ 45 74 (v := ?_) ?_ ?_; rotate_left
                · intro w' hw'; go_simp; (try with_reducible rfl)
                simp only [st0_, st1_]
                refine opR_ 46 75 (v := ?_) ?_ ?_; rotate_left
                · intro w' hw'; go_simp; (try with_reducible rfl)
                simp only [st0_, st1_]
                refine opR_ 47 76 (v := ?_) ?_ ?_; rotate_left
                · intro w' hw'; go_simp; (try with_reducible rfl)
                simp only [st0_, st1_]
                refine opR_ 48 77 (v := ?_) ?_ ?_; rotate_left
                · intro w' hw'; go_simp; (try with_reducible rfl)
                simp only [st0_, st1_]
                refine opR_ 49 78 (v := ?_) ?_ ?_; rotate_left
                · intro w' hw'; go_simp; (try with_reducible rfl)
                simp only [st0_, st1_]
                refine opR_ 50 79 (v := ?_) ?_ ?_; rotate_left
                · intro w' hw'; go_simp; (try with_reducible rfl)
                simp only [st0_, st1_]
                refine opX_ 51 80 ?_
                apply Exists.intro
                apply And.intro
                · exact yr_skip (by rfl)
                simp only [st0_, st1_]
                refine opX_ 52 81 ?_
                apply Exists.intro
                apply And.intro
                · exact yr_skip (by rfl)
                simp only [st0_, st1_]
                refine opR_ 53 82 (v := ?_) ?_ ?_; rotate_left
                · intro w' hw'; go_simp; (try with_reducible rfl)
                simp only [st0_, st1_]
                refine wpR_done (by kernel_rfl) ?_ _
                intro W9 hw9
                have HBz := Lib.hid (bel_bl HB3.out (bel_bl (bel_dr (Below.refl wq.heap.size wq)) hw9))
                clear hw9 q0 q1 q2 q3 la0 la1 la2 la3 lb0 lb1 lb2 lb3 HB3
                go_wp2
                go_ret
                exact ⟨by rw [Hno.out]; rfl, HBz.out⟩
            · clear Geo
              have q0 : ((k1 : Int) != l1) = false := by rw [e0]; exact bne_self_eq_false _
              have q1 : ((k2 : Int) != l2) = false := by rw [e1]; exact bne_self_eq_false _
              have q2 : ((k3 : Int) != l3) = true := bne_iff_ne.2 e2
              have Hno : RowKit.Hid (R = false) := Lib.hid (Hdec.out.symm.trans (decide_eq_false (map_ne_at sdT HX.out HY.out (fun q => e2 (by have := congrArg (fun z : SD => z.1.2.2.1) q; exact this)))))
              clear e0 e1 e2
              refine wp_region_reg (Nil_) (by kernel_rfl) ?_
              refine opR_ 0 29 (v := ?_) ?_ ?_; rotate_left
              · intro w' hw'; go_simp; (try with_reducible rfl)
              simp only [st0_, st1_]
              refine opR_ 1 30 (v := ?_) ?_ ?_; rotate_left
              · intro w' hw'; go_simp; (try with_reducible rfl)
              simp only [st0_, st1_]
              refine opR_ 2 31 (v := ?_) ?_ ?_; rotate_left
              · intro w' hw'; go_simp; (try with_reducible rfl)
              simp only [st0_, st1_]
              refine opR_ 3 32 (v := ?_) ?_ ?_; rotate_left
              · intro w' hw'; go_simp; (try with_reducible rfl)
              simp only [st0_, st1_]
              refine opR_ 4 33 (v := ?_) ?_ ?_; rotate_left
              · intro w' hw'; go_simp; (try with_reducible rfl)
              simp only [st0_, st1_]
              refine opR_ 5 34 (v := ?_) ?_ ?_; rotate_left
              · intro w' hw'; go_simp; (try with_reducible rfl)
              simp only [st0_, st1_]
              refine opR_ 6 35 (v := ?_) ?_ ?_; rotate_left
              · intro w' hw'; go_simp; (try with_reducible rfl)
              simp only [st0_, st1_]
              refine opR_ 7 36 (v := ?_) ?_ ?_; rotate_left
              · intro w' hw'; go_simp; (try with_reducible rfl)
              simp only [st0_, st1_]
              refine opR_ 8 37 (v := ?_) ?_ ?_; rotate_left
              · intro w' hw'; go_simp; (try with_reducible rfl)
              simp only [st0_, st1_]
              refine opR_ 9 38 (v := ?_) ?_ ?_; rotate_left
              · intro w' hw'; go_simp; (try with_reducible rfl)
              simp only [st0_, st1_]
              refine opR_ 10 39 (v := ?_) ?_ ?_; rotate_left
              · intro w' hw'; go_simp; (try with_reducible rfl)
              simp only [st0_, st1_]
              refine opR_ 11 40 (v := ?_) ?_ ?_; rotate_left
              · intro w' hw'; go_simp; (try with_reducible rfl)
              simp only [st0_, st1_]
              refine opR_ 12 41 (v := ?_) ?_ ?_; rotate_left
              · intro w' hw'; go_simp; (try with_reducible rfl)
              simp only [st0_, st1_]
              refine opR_ 13 42 (v := ?_) ?_ ?_; rotate_left
              · intro w' hw'; go_simp; (try with_reducible rfl)
              simp only [st0_, st1_]
              refine opR_ 14 43 (v := ?_) ?_ ?_; rotate_left
              · intro w' hw'; go_simp; (try with_reducible rfl)
              simp only [st0_, st1_]
              refine opR_ 15 44 (v := ?_) ?_ ?_; rotate_left
              · intro w' hw'; go_simp; (try with_reducible rfl)
              simp only [st0_, st1_]
              refine opR_ 16 45 (v := ?_) ?_ ?_; rotate_left
              · intro w' hw'; go_simp; (try with_reducible rfl)
              simp only [st0_, st1_]
              refine opR_ 17 46 (v := ?_) ?_ ?_; rotate_left
              · intro w' hw'; go_simp; (try with_reducible rfl)
              simp only [st0_, st1_]
              refine opR_ 18 47 (v := ?_) ?_ ?_; rotate_left
              · intro w' hw'; go_simp; (try with_reducible rfl)
              simp only [st0_, st1_]
              refine opR_ 19 48 (v := ?_) ?_ ?_; rotate_left
              · intro w' hw'; go_simp; (try with_reducible rfl)
              simp only [st0_, st1_]
              refine opR_ 20 49 (v := ?_) ?_ ?_; rotate_left
              · intro w' hw'; go_simp; (try with_reducible rfl)
              simp only [st0_, st1_]
              refine opR_ 21 50 (v := ?_) ?_ ?_; rotate_left
              · intro w' hw'; go_simp; (try with_reducible rfl)
              simp only [st0_, st1_]
              refine opR_ 22 51 (v := ?_) ?_ ?_; rotate_left
              · intro w' hw'; go_simp; (try with_reducible rfl)
              simp only [st0_, st1_]
              refine opR_ 23 52 (v := ?_) ?_ ?_; rotate_left
              · intro w' hw'; go_simp; (try with_reducible rfl)
              simp only [st0_, st1_]
              refine opR_ 24 53 (v := ?_) ?_ ?_; rotate_left
              · intro w' hw'; go_simp; (try with_reducible rfl)
              simp only [st0_, st1_]
              refine opR_ 25 54 (v := ?_) ?_ ?_; rotate_left
              · intro w' hw'; go_simp; (try with_reducible rfl)
              simp only [st0_, st1_]
              refine opR_ 26 55 (v := ?_) ?_ ?_; rotate_left
              · intro w' hw'; go_simp; (try with_reducible rfl)
              simp only [st0_, st1_]
              refine opR_ 27 56 (v := ?_) ?_ ?_; rotate_left
              · intro w' hw'; go_simp; (try with_reducible rfl)
              simp only [st0_, st1_]
              refine opR_ 28 57 (v := ?_) ?_ ?_; rotate_left
              · intro w' hw'; go_simp; (try with_reducible rfl)
              simp only [st0_, st1_]
              refine opR_ 29 58 (v := ?_) ?_ ?_; rotate_left
              · intro w' hw'; go_simp; (try with_reducible rfl)
              simp only [st0_, st1_]
              refine opR_ 30 59 (v := ?_) ?_ ?_; rotate_left
              · intro w' hw'; go_simp; (try with_reducible rfl)
              simp only [st0_, st1_]
              refine opR_ 31 60 (v := ?_) ?_ ?_; rotate_left
              · intro w' hw'; go_simp; (try with_reducible rfl)
              simp only [st0_, st1_]
              refine opR_ 32 61 (v := ?_) ?_ ?_; rotate_left
              · intro w' hw'; go_simp; (try with_reducible rfl)
              simp only [st0_, st1_]
              refine opR_ 33 62 (v := ?_) ?_ ?_; rotate_left
              · intro w' hw'; go_simp; (try with_reducible rfl)
              simp only [st0_, st1_]
              refine opR_ 34 63 (v := ?_) ?_ ?_; rotate_left
              · intro w' hw'; go_simp; (try with_reducible rfl)
              simp only [st0_, st1_]
              refine opR_ 35 64 (v := ?_) ?_ ?_; rotate_left
              · intro w' hw'; go_simp; (try with_reducible rfl)
              simp only [st0_, st1_]
              refine opR_ 36 65 (v := ?_) ?_ ?_; rotate_left
              · intro w' hw'; go_simp; (try with_reducible rfl)
              simp only [st0_, st1_]
              refine opR_ 37 66 (v := ?_) ?_ ?_; rotate_left
              · intro w' hw'; go_simp; (try with_reducible rfl)
              simp only [st0_, st1_]
              refine opX_ 38 67 ?_
              apply Exists.intro
              apply And.intro
              · exact yr_skip (by rfl)
              simp only [st0_, st1_]
              refine opX_ 39 68 ?_
              apply Exists.intro
              apply And.intro
              · exact yr_skip (by rfl)
              simp only [st0_, st1_]
              refine opX_ 40 69 ?_
              apply Exists.intro
              apply And.intro
              · exact yr_skip (by rfl)
              simp only [st0_, st1_]
              refine opX_ 41 70 ?_
              apply Exists.intro
              apply And.intro
              · exact yr_skip (by rfl)
              simp only [st0_, st1_]
              refine opX_ 42 71 ?_
              apply Exists.intro
              apply And.intro
              · exact yr_skip (by rfl)
              simp only [st0_, st1_]
              refine opX_ 43 72 ?_
              apply Exists.intro
              apply And.intro
              · exact yr_skip (by rfl)
              simp only [st0_, st1_]
              refine opX_ 44 73 ?_
              apply Exists.intro
              apply And.intro
              · exact yr_skip (by rfl)
              simp only [st0_, st1_]
              refine opX_ 45 74 ?_
              apply Exists.intro
              apply And.intro
              · exact yr_skip (by rfl)
              simp only [st0_, st1_]
              refine opX_ 46 75 ?_
              apply Exists.intro
              apply And.intro
              · exact yr_skip (by rfl)
              simp only [st0_, st1_]
              refine opX_ 47 76 ?_
              apply Exists.intro
              apply And.intro
              · exact yr_skip (by rfl)
              simp only [st0_, st1_]
              refine opX_ 48 77 ?_
              apply Exists.intro
              apply And.intro
              · exact yr_skip (by rfl)
              simp only [st0_, st1_]
              refine opR_ 49 78 (v := ?_) ?_ ?_; rotate_left
              · intro w' hw'; go_simp; (try with_reducible rfl)
              simp only [st0_, st1_]
              refine opR_ 50 79 (v := ?_) ?_ ?_; rotate_left
              · intro w' hw'; go_simp; (try with_reducible rfl)
              simp only [st0_, st1_]
              refine opX_ 51 80 ?_
              apply Exists.intro
              apply And.intro
              · exact yr_skip (by rfl)
              simp only [st0_, st1_]
              refine opX_ 52 81 ?_
              apply Exists.intro
              apply And.intro
              · exact yr_skip (by rfl)
              simp only [st0_, st1_]
              refine opR_ 53 82 (v := ?_) ?_ ?_; rotate_left
              · intro w' hw'; go_simp; (try with_reducible rfl)
              simp only [st0_, st1_]
              refine wpR_done (by kernel_rfl) ?_ _
              intro W9 hw9
              have HBz := Lib.hid (bel_bl HB3.out (bel_bl (bel_dr (Below.refl wq.heap.size wq)) hw9))
              clear hw9 q0 q1 q2 la0 la1 la2 la3 lb0 lb1 lb2 lb3 HB3
              go_wp2
              go_ret
              exact ⟨by rw [Hno.out]; rfl, HBz.out⟩
          · clear Geo
            have q0 : ((k1 : Int) != l1) = false := by rw [e0]; exact bne_self_eq_false _
            have q1 : ((k2 : Int) != l2) = true := bne_iff_ne.2 e1
            have Hno : RowKit.Hid (R = false) := Lib.hid (Hdec.out.symm.trans (decide_eq_false (map_ne_at sdT HX.out HY.out (fun q => e1 (by have := congrArg (fun z : SD => z.1.2.1) q; exact this)))))
            clear e0 e1
            refine wp_region_reg (Nil_) (by kernel_rfl) ?_
            refine opR_ 0 29 (v := ?_) ?_ ?_; rotate_left
            · intro w' hw'; go_simp; (try with_reducible rfl)
            simp only [st0_, st1_]
            refine opR_ 1 30 (v := ?_) ?_ ?_; rotate_left
            · intro w' hw'; go_simp; (try with_reducible rfl)
            simp only [st0_, st1_]
            refine opR_ 2 31 (v := ?_) ?_ ?_; rotate_left
            · intro w' hw'; go_simp; (try with_reducible rfl)
            simp only [st0_, st1_]
            refine opR_ 3 32 (v := ?_) ?_ ?_; rotate_left
            · intro w' hw'; go_simp; (try with_reducible rfl)
            simp only [st0_, st1_]
            refine opR_ 4 33 (v := ?_) ?_ ?_; rotate_left
            · intro w' hw'; go_simp; (try with_reducible rfl)
            simp only [st0_, st1_]
            refine opR_ 5 34 (v := ?_) ?_ ?_; rotate_left
            · intro w' hw'; go_simp; (try with_reducible rfl)
            simp only [st0_, st1_]
            refine opR_ 6 35 (v := ?_) ?_ ?_; rotate_left
            · intro w' hw'; go_simp; (try with_reducible rfl)
            simp only [st0_, st1_]
            refine opR_ 7 36 (v := ?_) ?_ ?_; rotate_left
            · intro w' hw'; go_simp; (try with_reducible rfl)
            simp only [st0_, st1_]
            refine opR_ 8 37 (v := ?_) ?_ ?_; rotate_left
            · intro w' hw'; go_simp; (try with_reducible rfl)
            simp only [st0_, st1_]
            refine opR_ 9 38 (v := ?_) ?_ ?_; rotate_left
            · intro w' hw'; go_simp; (try with_reducible rfl)
            simp only [st0_, st1_]
            refine opR_ 10 39 (v := ?_) ?_ ?_; rotate_left
            · intro w' hw'; go_simp; (try with_reducible rfl)
            simp only [st0_, st1_]
            refine opR_ 11 40 (v := ?_) ?_ ?_; rotate_left
            · intro w' hw'; go_simp; (try with_reducible rfl)
            simp only [st0_, st1_]
            refine opR_ 12 41 (v := ?_) ?_ ?_; rotate_left
            · intro w' hw'; go_simp; (try with_reducible rfl)
            simp only [st0_, st1_]
            refine opR_ 13 42 (v := ?_) ?_ ?_; rotate_left
            · intro w' hw'; go_simp; (try with_reducible rfl)
            simp only [st0_, st1_]
            refine opR_ 14 43 (v := ?_) ?_ ?_; rotate_left
            · intro w' hw'; go_simp; (try with_reducible rfl)
            simp only [st0_, st1_]
            refine opR_ 15 44 (v := ?_) ?_ ?_; rotate_left
            · intro w' hw'; go_simp; (try with_reducible rfl)
            simp only [st0_, st1_]
            refine opR_ 16 45 (v := ?_) ?_ ?_; rotate_left
            · intro w' hw'; go_simp; (try with_reducible rfl)
            simp only [st0_, st1_]
            refine opR_ 17 46 (v := ?_) ?_ ?_; rotate_left
            · intro w' hw'; go_simp; (try with_reducible rfl)
            simp only [st0_, st1_]
            refine opR_ 18 47 (v := ?_) ?_ ?_; rotate_left
            · intro w' hw'; go_simp; (try with_reducible rfl)
            simp only [st0_, st1_]
            refine opR_ 19 48 (v := ?_) ?_ ?_; rotate_left
            · intro w' hw'; go_simp; (try with_reducible rfl)
            simp only [st0_, st1_]
            refine opR_ 20 49 (v := ?_) ?_ ?_; rotate_left
            · intro w' hw'; go_simp; (try with_reducible rfl)
            simp only [st0_, st1_]
            refine opR_ 21 50 (v := ?_) ?_ ?_; rotate_left
            · intro w' hw'; go_simp; (try with_reducible rfl)
            simp only [st0_, st1_]
            refine opR_ 22 51 (v := ?_) ?_ ?_; rotate_left
            · intro w' hw'; go_simp; (try with_reducible rfl)
            simp only [st0_, st1_]
            refine opR_ 23 52 (v := ?_) ?_ ?_; rotate_left
            · intro w' hw'; go_simp; (try with_reducible rfl)
            simp only [st0_, st1_]
            refine opR_ 24 53 (v := ?_) ?_ ?_; rotate_left
            · intro w' hw'; go_simp; (try with_reducible rfl)
            simp only [st0_, st1_]
            refine opX_ 25 54 ?_
            apply Exists.intro
            apply And.intro
            · exact yr_skip (by rfl)
            simp only [st0_, st1_]
            refine opX_ 26 55 ?_
            apply Exists.intro
            apply And.intro
            · exact yr_skip (by rfl)
            simp only [st0_, st1_]
            refine opX_ 27 56 ?_
            apply Exists.intro
            apply And.intro
            · exact yr_skip (by rfl)
            simp only [st0_, st1_]
            refine opX_ 28 57 ?_
            apply Exists.intro
            apply And.intro
            · exact yr_skip (by rfl)
            simp only [st0_, st1_]
            refine opX_ 29 58 ?_
            apply Exists.intro
            apply And.intro
            · exact yr_skip (by rfl)
            simp only [st0_, st1_]
            refine opX_ 30 59 ?_
            apply Exists.intro
            apply And.intro
            · exact yr_skip (by rfl)
            simp only [st0_, st1_]
            refine opX_ 31 60 ?_
            apply Exists.intro
            apply And.intro
            · exact yr_skip (by rfl)
            simp only [st0_, st1_]
            refine opX_ 32 61 ?_
            apply Exists.intro
            apply And.intro
            · exact yr_skip (by rfl)
            simp only [st0_, st1_]
            refine opX_ 33 62 ?_
            apply Exists.intro
            apply And.intro
            · exact yr_skip (by rfl)
            simp only [st0_, st1_]
            refine opX_ 34 63 ?_
            apply Exists.intro
            apply And.intro
            · exact yr_skip (by rfl)
            simp only [st0_, st1_]
            refine opX_ 35 64 ?_
            apply Exists.intro
            apply And.intro
            · exact yr_skip (by rfl)
            simp only [st0_, st1_]
            refine opR_ 36 65 (v := ?_) ?_ ?_; rotate_left
            · intro w' hw'; go_simp; (try with_reducible rfl)
            simp only [st0_, st1_]
            refine opR_ 37 66 (v := ?_) ?_ ?_; rotate_left
            · intro w' hw'; go_simp; (try with_reducible rfl)
            simp only [st0_, st1_]
            refine opX_ 38 67 ?_
            apply Exists.intro
            apply And.intro
            · exact yr_skip (by rfl)
            simp only [st0_, st1_]
            refine opX_ 39 68 ?_
            apply Exists.intro
            apply And.intro
            · exact yr_skip (by rfl)
            simp only [st0_, st1_]
            refine opX_ 40 69 ?_
            apply Exists.intro
            apply And.intro
            · exact yr_skip (by rfl)
            simp only [st0_, st1_]
            refine opX_ 41 70 ?_
            apply Exists.intro
            apply And.intro
            · exact yr_skip (by rfl)
            simp only [st0_, st1_]
            refine opX_ 42 71 ?_
            apply Exists.intro
            apply And.intro
            · exact yr_skip (by rfl)
            simp only [st0_, st1_]
            refine opX_ 43 72 ?_
            apply Exists.intro
            apply And.intro
            · exact yr_skip (by rfl)
            simp only [st0_, st1_]
            refine opX_ 44 73 ?_
            apply Exists.intro
            apply And.intro
            · exact yr_skip (by rfl)
            simp only [st0_, st1_]
            refine opX_ 45 74 ?_
            apply Exists.intro
            apply And.intro
            · exact yr_skip (by rfl)
            simp only [st0_, st1_]
            refine opX_ 46 75 ?_
            apply Exists.intro
            apply And.intro
            · exact yr_skip (by rfl)
            simp only [st0_, st1_]
            refine opX_ 47 76 ?_
            apply Exists.intro
            apply And.intro
            · exact yr_skip (by rfl)
            simp only [st0_, st1_]
            refine opX_ 48 77 ?_
            apply Exists.intro
            apply And.intro
            · exact yr_skip (by rfl)
            simp only [st0_, st1_]
            refine opR_ 49 78 (v := ?_) ?_ ?_; rotate_left
            · intro w' hw'; go_simp; (try with_reducible rfl)
            simp only [st0_, st1_]
            refine opR_ 50 79 (v := ?_) ?_ ?_; rotate_left
            · intro w' hw'; go_simp; (try with_reducible rfl)
            simp only [st0_, st1_]
            refine opX_ 51 80 ?_
            apply Exists.intro
            apply And.intro
            · exact yr_skip (by rfl)
            simp only [st0_, st1_]
            refine opX_ 52 81 ?_
            apply Exists.intro
            apply And.intro
            · exact yr_skip (by rfl)
            simp only [st0_, st1_]
            refine opR_ 53 82 (v := ?_) ?_ ?_; rotate_left
            · intro w' hw'; go_simp; (try with_reducible rfl)
            simp only [st0_, st1_]
            refine wpR_done (by kernel_rfl) ?_ _
            intro W9 hw9
            have HBz := Lib.hid (bel_bl HB3.out (bel_bl (bel_dr (Below.refl wq.heap.size wq)) hw9))
            clear hw9 q0 q1 la0 la1 la2 la3 lb0 lb1 lb2 lb3 HB3
            go_wp2
            go_ret
            exact ⟨by rw [Hno.out]; rfl, HBz.out⟩
        · clear Geo
          have q0 : ((k1 : Int) != l1) = true := bne_iff_ne.2 e0
          have Hno : RowKit.Hid (R = false) := Lib.hid (Hdec.out.symm.trans (decide_eq_false (map_ne_at sdT HX.out HY.out (fun q => e0 (by have := congrArg (fun z : SD => z.1.1) q; exact this)))))
          clear e0
          refine wp_region_reg (Nil_) (by kernel_rfl) ?_
          refine opR_ 0 29 (v := ?_) ?_ ?_; rotate_left
          · intro w' hw'; go_simp; (try with_reducible rfl)
          simp only [st0_, st1_]
          refine opR_ 1 30 (v := ?_) ?_ ?_; rotate_left
          · intro w' hw'; go_simp; (try with_reducible rfl)
          simp only [st0_, st1_]
          refine opR_ 2 31 (v := ?_) ?_ ?_; rotate_left
          · intro w' hw'; go_simp; (try with_reducible rfl)
          simp only [st0_, st1_]
          refine opR_ 3 32 (v := ?_) ?_ ?_; rotate_left
          · intro w' hw'; go_simp; (try with_reducible rfl)
          simp only [st0_, st1_]
          refine opR_ 4 33 (v := ?_) ?_ ?_; rotate_left
          · intro w' hw'; go_simp; (try with_reducible rfl)
          simp only [st0_, st1_]
          refine opR_ 5 34 (v := ?_) ?_ ?_; rotate_left
          · intro w' hw'; go_simp; (try with_reducible rfl)
          simp only [st0_, st1_]
          refine opR_ 6 35 (v := ?_) ?_ ?_; rotate_left
          · intro w' hw'; go_simp; (try with_reducible rfl)
          simp only [st0_, st1_]
          refine opR_ 7 36 (v := ?_) ?_ ?_; rotate_left
          · intro w' hw'; go_simp; (try with_reducible rfl)
          simp only [st0_, st1_]
          refine opR_ 8 37 (v := ?_) ?_ ?_; rotate_left
          · intro w' hw'; go_simp; (try with_reducible rfl)
          simp only [st0_, st1_]
          refine opR_ 9 38 (v := ?_) ?_ ?_; rotate_left
          · intro w' hw'; go_simp; (try with_reducible rfl)
          simp only [st0_, st1_]
          refine opR_ 10 39 (v := ?_) ?_ ?_; rotate_left
          · intro w' hw'; go_simp; (try with_reducible rfl)
          simp only [st0_, st1_]
          refine opR_ 11 40 (v := ?_) ?_ ?_; rotate_left
          · intro w' hw'; go_simp; (try with_reducible rfl)
          simp only [st0_, st1_]
          refine opX_ 12 41 ?_
          apply Exists.intro
          apply And.intro
          · exact yr_skip (by rfl)
          simp only [st0_, st1_]
          refine opX_ 13 42 ?_
          apply Exists.intro
          apply And.intro
          · exact yr_skip (by rfl)
          simp only [st0_, st1_]
          refine opX_ 14 43 ?_
          apply Exists.intro
          apply And.intro
          · exact yr_skip (by rfl)
          simp only [st0_, st1_]
          refine opX_ 15 44 ?_
          apply Exists.intro
          apply And.intro
          · exact yr_skip (by rfl)
          simp only [st0_, st1_]
          refine opX_ 16 45 ?_
          apply Exists.intro
          apply And.intro
          · exact yr_skip (by rfl)
          simp only [st0_, st1_]
          refine opX_ 17 46 ?_
          apply Exists.intro
          apply And.intro
          · exact yr_skip (by rfl)
          simp only [st0_, st1_]
          refine opX_ 18 47 ?_
          apply Exists.intro
          apply And.intro
          · exact yr_skip (by rfl)
          simp only [st0_, st1_]
          refine opX_ 19 48 ?_
          apply Exists.intro
          apply And.intro
          · exact yr_skip (by rfl)
          simp only [st0_, st1_]
          refine opX_ 20 49 ?_
          apply Exists.intro
          apply And.intro
          · exact yr_skip (by rfl)
          simp only [st0_, st1_]
          refine opX_ 21 50 ?_
          apply Exists.intro
          apply And.intro
          · exact yr_skip (by rfl)
          simp only [st0_, st1_]
          refine opX_ 22 51 ?_
          apply Exists.intro
          apply And.intro
          · exact yr_skip (by rfl)
          simp only [st0_, st1_]
          refine opR_ 23 52 (v := ?_) ?_ ?_; rotate_left
          · intro w' hw'; go_simp; (try with_reducible rfl)
          simp only [st0_, st1_]
          refine opR_ 24 53 (v := ?_) ?_ ?_; rotate_left
          · intro w' hw'; go_simp; (try with_reducible rfl)
          simp only [st0_, st1_]
          refine opX_ 25 54 ?_
          apply Exists.intro
          apply And.intro
          · exact yr_skip (by rfl)
          simp only [st0_, st1_]
          refine opX_ 26 55 ?_
          apply Exists.intro
          apply And.intro
          · exact yr_skip (by rfl)
          simp only [st0_, st1_]
          refine opX_ 27 56 ?_
          apply Exists.intro
          apply And.intro
          · exact yr_skip (by rfl)
          simp only [st0_, st1_]
          refine opX_ 28 57 ?_
          apply Exists.intro
          apply And.intro
          · exact yr_skip (by rfl)
          simp only [st0_, st1_]
          refine opX_ 29 58 ?_
          apply Exists.intro
          apply And.intro
          · exact yr_skip (by rfl)
          simp only [st0_, st1_]
          refine opX_ 30 59 ?_
          apply Exists.intro
          apply And.intro
          · exact yr_skip (by rfl)
          simp only [st0_, st1_]
          refine opX_ 31 60 ?_
          apply Exists.intro
          apply And.intro
          · exact yr_skip (by rfl)
          simp only [st0_, st1_]
          refine opX_ 32 61 ?_
          apply Exists.intro
          apply And.intro
          · exact yr_skip (by rfl)
          simp only [st0_, st1_]
          refine opX_ 33 62 ?_
          apply Exists.intro
          apply And.intro
          · exact yr_skip (by rfl)
          simp only [st0_, st1_]
          refine opX_ 34 63 ?_
          apply Exists.intro
          apply And.intro
          · exact yr_skip (by rfl)
          simp only [st0_, st1_]
          refine opX_ 35 64 ?_
          apply Exists.intro
          apply And.intro
          · exact yr_skip (by rfl)
          simp only [st0_, st1_]
          refine opR_ 36 65 (v := ?_) ?_ ?_; rotate_left
          · intro w' hw'; go_simp; (try with_reducible rfl)
          simp only [st0_, st1_]
          refine opR_ 37 66 (v := ?_) ?_ ?_; rotate_left
          · intro w' hw'; go_simp; (try with_reducible rfl)
          simp only [st0_, st1_]
          refine opX_ 38 67 ?_
          apply Exists.intro
          apply And.intro
          · exact yr_skip (by rfl)
          simp only [st0_, st1_]
          refine opX_ 39 68 ?_
          apply Exists.intro
          apply And.intro
          · exact yr_skip (by rfl)
          simp only [st0_, st1_]
          refine opX_ 40 69 ?_
          apply Exists.intro
          apply And.intro
          · exact yr_skip (by rfl)
          simp only [st0_, st1_]
          refine opX_ 41 70 ?_
          apply Exists.intro
          apply And.intro
          · exact yr_skip (by rfl)
          simp only [st0_, st1_]
          refine opX_ 42 71 ?_
          apply Exists.intro
          apply And.intro
          · exact yr_skip (by rfl)
          simp only [st0_, st1_]
          refine opX_ 43 72 ?_
          apply Exists.intro
          apply And.intro
          · exact yr_skip (by rfl)
          simp only [st0_, st1_]
          refine opX_ 44 73 ?_
          apply Exists.intro
          apply And.intro
          · exact yr_skip (by rfl)
          simp only [st0_, st1_]
          refine opX_ 45 74 ?_
          apply Exists.intro
          apply And.intro
          · exact yr_skip (by rfl)
          simp only [st0_, st1_]
          refine opX_ 46 75 ?_
          apply Exists.intro
          apply And.intro
          · exact yr_skip (by rfl)
          simp only [st0_, st1_]
          refine opX_ 47 76 ?_
          apply Exists.intro
          apply And.intro
          · exact yr_skip (by rfl)
          simp only [st0_, st1_]
          refine opX_ 48 77 ?_
          apply Exists.intro
          apply And.intro
          · exact yr_skip (by rfl)
          simp only [st0_, st1_]
          refine opR_ 49 78 (v := ?_) ?_ ?_; rotate_left
          · intro w' hw'; go_simp; (try with_reducible rfl)
          simp only [st0_, st1_]
          refine opR_ 50 79 (v := ?_) ?_ ?_; rotate_left
          · intro w' hw'; go_simp; (try with_reducible rfl)
          simp only [st0_, st1_]
          refine opX_ 51 80 ?_
          apply Exists.intro
          apply And.intro
          · exact yr_skip (by rfl)
          simp only [st0_, st1_]
          refine opX_ 52 81 ?_
          apply Exists.intro
          apply And.intro
          · exact yr_skip (by rfl)
          simp only [st0_, st1_]
          refine opR_ 53 82 (v := ?_) ?_ ?_; rotate_left
          · intro w' hw'; go_simp; (try with_reducible rfl)
          simp only [st0_, st1_]
          refine wpR_done (by kernel_rfl) ?_ _
          intro W9 hw9
          have HBz := Lib.hid (bel_bl HB3.out (bel_bl (bel_dr (Below.refl wq.heap.size wq)) hw9))
          clear hw9 q0 la0 la1 la2 la3 lb0 lb1 lb2 lb3 HB3
          go_wp2
          go_ret
          exact ⟨by rw [Hno.out]; rfl, HBz.out⟩
      · obtain rfl : n = j := by omega
        have hp := HP.out
        rw [List.take_of_length_le (by rw [Hl.out]; exact Nat.le_refl _), List.take_of_length_le (by rw [Hl'.out]; exact Nat.le_refl _)] at hp
        have hR : true = R := (decide_eq_true hp).symm.trans Hdec.out
        subst hR
        clear hp HP
        go_wp2
        go_ret
        exact ⟨rfl, HB.out⟩
  · have hd : decide (Ls.map sdT = Ms.map sdT) = false := decide_eq_false (fun q => hnn (by have := congrArg List.length q; rw [List.length_map, List.length_map, Hl.out, Hl'.out] at this; exact this))
    rw [hd]
    have hq : ((n : Int) != (n' : Int)) = true := bne_iff_ne.2 (by omega)
    clear hd
    go_enter Try.func12, Try.ntmps12
    go_wp2
    go_ret
    exact ⟨rfl, HB0.out⟩
end Go.Proofs.Ytinfbaflkjghhaa
/- The law's few: at most 30 steps, of 8 operations, texts cut. -/
namespace Go.Proofs.Ytinfbaflkjghhaa
open Go.RowKit
theorem rowsS1 (x : StT) : rowsV stC [x] = stC x := by simp [rowsV]
theorem info_stp : (Try.prog.info? 30).map (fun i => (i.zero, i.size, i.bytes)) = some (some (.agg #[.int .i64 0, .int .i64 0, .int .i64 0, .int .i64 0, .slice none 0 0]), 5, 56) := by kernel_rfl
def few8 (L : List OpT) : List OpT := (L.take 8).map cutO
def fewS (X : List SD) : List SD := (X.take 30).map (fun s => (s.1, few8 s.2))
/-- A row of steps of the call's own, and what lies behind it. -/
structure StW (lo : Nat) (W : World) (v : Value) (n : Nat) (Ts : List StT) : Prop where
  row : W.ownsRow lo 30 5 v n (rowsV stC Ts)
  each : ∀ s ∈ Ts, W.ownsRow lo 53 20 (.slice s.2.1 s.2.2.1 s.2.2.2.1) s.2.2.1 (rowsV opCells s.2.2.2.2)
theorem StW.up {lo n : Nat} {W W' : World} {v : Value} {Ts : List StT} (h : StW lo W v n Ts) (hb : Below W.heap.size W W') : StW lo W' v n Ts := ⟨own_up h.row hb, fun s hs => own_up (h.each s hs) hb⟩
theorem StW.rd {lo n c : Nat} {W : World} {A : Option Addr} {Ts : List StT} (h : StW lo W (.slice A n c) n Ts) (hf : ∀ s ∈ Ts, s.2.2.1 ≤ 1000000) (ht : ∀ s ∈ Ts, ∀ o ∈ s.2.2.2.2, o.t.size ≤ maxLen) (hi : ∀ s ∈ Ts, In4 s.1) : StRd W A n c Ts :=
  ⟨own_rds h.row, fun s hs => ⟨own_rds (h.each s hs), hf s hs, ht s hs, hi s hs⟩⟩
theorem few8_max (L : List OpT) : ∀ o ∈ few8 L, o.t.size ≤ maxLen := fun o ho => by
  obtain ⟨x, -, rfl⟩ := List.mem_map.1 ho
  have := cutO_size x
  unfold maxLen
  omega
theorem fewS_ok {X : List SD} (h : ∀ s ∈ X, In4 s.1) : ∀ s ∈ fewS X, In4 s.1 ∧ ∀ o ∈ s.2, o.t.size ≤ maxLen := fun s hs => by
  obtain ⟨x, hx, rfl⟩ := List.mem_map.1 hs
  exact ⟨h x (List.mem_of_mem_take hx), few8_max _⟩
theorem few_rd {lo n c : Nat} {W : World} {A : Option Addr} {Ts : List StT} {X : List SD} (h : StW lo W (.slice A n c) n Ts) (hf : ∀ s ∈ Ts, s.2.2.1 ≤ 8) (he : Ts.map sdT = fewS X) (hi : ∀ s ∈ X, In4 s.1) : StRd W A n c Ts := by
  have hk : ∀ s ∈ Ts, In4 s.1 ∧ ∀ o ∈ s.2.2.2.2, o.t.size ≤ maxLen := fun s hs => fewS_ok hi (sdT s) (by rw [← he]; exact List.mem_map_of_mem hs)
  exact h.rd (fun s hs => by have := hf s hs; omega) (fun s hs => (hk s hs).2) (fun s hs => (hk s hs).1)
theorem map_take_next {α β : Type} (f : α → β) {l : List α} {N k : Nat} {x : α} (hx : l[k]? = some x) (hN : k < N) : ((l.take N).map f).take (k + 1) = ((l.take N).map f).take k ++ [f x] := take_snoc_ _ _ _ (by rw [List.getElem?_map, List.getElem?_take, if_pos hN, hx]; rfl)
theorem map_take_all {α β : Type} (f : α → β) {l : List α} {N k n : Nat} (hl : l.length = n) (hkn : k ≤ n) (hkN : k ≤ N) (h : ¬ (k < n ∧ k < N)) : ((l.take N).map f).take k = (l.take N).map f ∧ ((l.take N).map f).length = k := by
  rw [List.length_map, List.length_take, hl]
  exact ⟨List.take_of_length_le (by rw [List.length_map, List.length_take, hl]; omega), by omega⟩
set_option maxRecDepth 100000 in
set_option maxHeartbeats 8000000 in
theorem few23_any (A0 : Option Addr) (n c0 : Nat) (Ls : List StT) (w : World) (h : RdS w w.heap.size 5 A0 n c0 (rowsV stC Ls)) (he : ∀ s ∈ Ls, RdS w w.heap.size 20 s.2.1 s.2.2.1 s.2.2.2.1 (rowsV opCells s.2.2.2.2)) (hn : n ≤ maxLen) :
    Calls Try.prog 9 #[.slice A0 n c0] w fun e w' => ∃ A c Ts N, e = .returned (.slice A N c) ∧ N ≤ 30 ∧ Ts.map sdT = fewS (Ls.map sdT) ∧ StW w.heap.size w' (.slice A N c) N Ts ∧ (∀ s ∈ Ts, s.2.2.1 ≤ 8) ∧ Below w.heap.size w w' := by
  obtain ⟨i0, hi, hz0, hz1, hz2⟩ := info_parts_ info_op
  obtain ⟨iS, hiS, zS0, zS1, zS2⟩ := info_parts_ info_stp
  have HR := Lib.hid h
  have HEa := Lib.hid he
  have Hl : RowKit.Hid ((Ls.map sdT).length = n) := Lib.hid (by rw [List.length_map]; exact h.rlen stC_len (by decide))
  have Hl0 : RowKit.Hid (Ls.length = n) := Lib.hid (h.rlen stC_len (by decide))
  clear h he
  go_enter Try.func9, Try.ntmps9
  go_upto_region 3 with fail
  obtain ⟨wS, gwS⟩ : ∃ z, w.alloc (.cells #[] 30) = z := ⟨_, rfl⟩
  have HO0 : RowKit.Hid (Ow w w.heap.size 30 5 (.slice (some ⟨w.heap.size, 0, none⟩) 0 0) 0 (rowsV stC []) wS) := Lib.hid (gwS ▸ Ow.new_ (cs := #[]) (Below.refl _ _) (Nat.le_refl _) (Nat.le_refl _) (Nat.zero_le _) rfl)
  obtain ⟨v0, gv0⟩ : ∃ z : Value, .slice (some ⟨w.heap.size, 0, none⟩) 0 0 = z := ⟨_, rfl⟩
  rw [gwS, gv0]
  rw [gv0] at HO0
  clear gwS gv0
  go_loopw [3, 4] (fun v i wr => ∃ (k : Nat) (Ts : List StT), k ≤ 30 ∧ k ≤ n ∧ i = .int .i64 (k : Int) ∧ RowKit.Hid (Ow w w.heap.size 30 5 v k (rowsV stC Ts) wr) ∧ RowKit.Hid (Ts.map sdT = (fewS (Ls.map sdT)).take k) ∧ RowKit.Hid (∀ s ∈ Ts, s.2.2.1 ≤ 8 ∧ wr.ownsRow w.heap.size 53 20 (.slice s.2.1 s.2.2.1 s.2.2.2.1) s.2.2.1 (rowsV opCells s.2.2.2.2))) (fun _ i _ => 30 - (intOf i).toNat)
  case atStart => exact ⟨0, [], Nat.zero_le _, Nat.zero_le _, rfl, HO0, Lib.hid rfl, Lib.hid (fun s hs => by cases hs)⟩
  case round =>
    clear HO0
    obtain ⟨k, Ts, hk30, hkn, rfl, HO, HT, HE⟩ := hrel
    obtain ⟨wo, gwo⟩ : ∃ z, wr = z := ⟨_, rfl⟩
    rw [gwo] at HO HE ⊢
    clear gwo
    obtain ⟨Ac, cc, rfl, -⟩ := HO.out.rds
    by_cases hlt : k < n ∧ k < 30
    · obtain ⟨hl1, hl2⟩ := hlt
      have hi1 : (k : Int) < (n : Int) := by omega
      have hi2 : (k : Int) < 30 := by omega
      obtain ⟨x, hx⟩ : ∃ x, Ls[k]? = some x := ⟨_, List.getElem?_eq_getElem (by have := Hl0.out; omega)⟩
      have HNx : RowKit.Hid ((fewS (Ls.map sdT)).take (k + 1) = (fewS (Ls.map sdT)).take k ++ [((sdT x).1, few8 (sdT x).2)]) := Lib.hid (map_take_next (fun s : SD => (s.1, few8 s.2)) (by rw [List.getElem?_map, hx]; rfl) hl2)
      have HRx := Lib.hid ((HEa.out x (List.mem_of_getElem? hx)).bl HO.out.below)
      obtain ⟨b, off, rfl, hbB, hpl⟩ := (HR.out.bl HO.out.below).place stC_len (by decide) (by omega)
      have HP := Lib.hid (hpl k x hx)
      clear hx hpl hbB
      obtain ⟨hd, Ax, nx, cx, Lx⟩ := x
      have HLx : RowKit.Hid (Lx.length = nx) := Lib.hid (HRx.out.rlen opCells_len' (by decide))
      go_upto_region 5 with fail
      refine wp_region_lit ?_
      refine wl_read (v := ?_) (some 20) rfl (by rfl) ?_ ?_
      rotate_left
      · go_simp; (try with_reducible rfl)
      simp only [Act.put, stA_, st0_, st1_]
      refine wl_read (v := ?_) (some 21) rfl (by rfl) ?_ ?_
      rotate_left
      · go_simp; (try with_reducible rfl)
      simp only [Act.put, stA_, st0_, st1_]
      refine wl_read (v := ?_) (some 22) rfl (by rfl) ?_ ?_
      rotate_left
      · go_simp; (try with_reducible rfl)
      simp only [Act.put, stA_, st0_, st1_]
      refine wl_load_at (some 23) rfl (by rfl) 30 (.tmp 22) rfl ⟨b, off + k * 5, none⟩ rfl (stC (hd, (Ax, nx, cx, Lx))) _ HP.out Try.underlying30 rfl (by kernel_rfl) ?_
      simp only [Act.put, stA_, st0_, st1_]
      refine wl_new 5 rfl rfl rfl 30 (.tmp 23) rfl rfl #[.int .i64 0, .int .i64 0, .int .i64 0, .int .i64 0, .slice none 0 0] ?_ (stC (hd, (Ax, nx, cx, Lx))).toArray (by simp) rfl (by kernel_rfl) rfl (by simp [stC, Value.oneCell']) ?_
      · go_simp; (try with_reducible rfl)
      simp only [Act.put, stA_, st0_, st1_]
      go_upto_region 8 with fail
      have hb5 := below1 wo (.cells (stC (hd, (Ax, nx, cx, Lx))).toArray 30)
      have hb6 := bel_al hb5 (.cells #[.slice none 0 0] 28)
      have hX5 : Whole ((wo.alloc (.cells (stC (hd, (Ax, nx, cx, Lx))).toArray 30)).alloc (.cells #[.slice none 0 0] 28)) wo.heap.size 30 (stC (hd, (Ax, nx, cx, Lx))) := (Whole.new_ wo 30 _).alloc _
      have hX6 : Whole ((wo.alloc (.cells (stC (hd, (Ax, nx, cx, Lx))).toArray 30)).alloc (.cells #[.slice none 0 0] 28)) (wo.heap.size + 1) 28 [.slice none 0 0] := Whole.new2 (w := wo.alloc (.cells (stC (hd, (Ax, nx, cx, Lx))).toArray 30)) (by simp)
      have Hne : RowKit.Hid (some wo.heap.size ≠ (Value.slice Ac k cc).ownBlock) := Lib.hid (Ow.ne_ HO.out (Nat.le_refl _))
      obtain ⟨W2, gW2⟩ : ∃ z, (wo.alloc (.cells (stC (hd, (Ax, nx, cx, Lx))).toArray 30)).alloc (.cells #[.slice none 0 0] 28) = z := ⟨_, rfl⟩
      obtain ⟨b6, gb6⟩ : ∃ z, wo.heap.size + 1 = z := ⟨_, rfl⟩
      obtain ⟨b5, gb5⟩ : ∃ z, wo.heap.size = z := ⟨_, rfl⟩
      rw [gW2] at hb6 hX5 hX6 ⊢
      rw [gb6] at hX6 ⊢
      rw [gb5] at hX5 Hne ⊢
      have HX5 := Lib.hid hX5
      have HX6 := Lib.hid hX6
      have Hb : RowKit.Hid (b5 ≠ b6 ∧ wo.heap.size ≤ b5 ∧ wo.heap.size ≤ b6) := Lib.hid (by omega)
      have HI0 : RowKit.Hid (Ow wo wo.heap.size 53 20 (.slice none 0 0) 0 (rowsV opCells ((few8 Lx).take 0)) W2) := Lib.hid ⟨World.ownsRow_nil _ _ _ _, gb5 ▸ hb6, Nat.le_refl _, by have := hb6.size; omega⟩
      clear hb5 hb6 hX5 hX6 gW2 gb6 gb5 HP
      go_loopw [7] (fun i wr => ∃ (q : Nat) (A : Option Addr) (c : Nat), q ≤ 8 ∧ q ≤ nx ∧ i = .int .i64 (q : Int) ∧ RowKit.Hid (Ow wo wo.heap.size 53 20 (.slice A q c) q (rowsV opCells ((few8 Lx).take q)) wr ∧ Whole wr b5 30 (stC (hd, (Ax, nx, cx, Lx))) ∧ Whole wr b6 28 [.slice A q c])) (fun i _ => 8 - (intOf i).toNat)
      case atStart => exact ⟨0, none, 0, Nat.zero_le _, Nat.zero_le _, rfl, Lib.hid ⟨HI0.out, HX5.out, HX6.out⟩⟩
      case round =>
        clear HI0 HX5 HX6
        obtain ⟨q, A, c, hq8, hqn, rfl, hin⟩ := hrel
        have HI := Lib.hid hin.out.1
        have HX5 := Lib.hid hin.out.2.1
        have HX6 := Lib.hid hin.out.2.2
        clear hin
        obtain ⟨wp, gwp⟩ : ∃ z, wr = z := ⟨_, rfl⟩
        rw [gwp] at HI HX5 HX6 ⊢
        clear gwp
        have e5 : wp.cell? ⟨b5, 4, none⟩ = some (.slice Ax nx cx) := HX5.out.cell (i := 4) rfl
        by_cases hqlt : q < nx ∧ q < 8
        · obtain ⟨hq1, hq2⟩ := hqlt
          have hj1 : (q : Int) < (nx : Int) := by omega
          have hj2 : (q : Int) < 8 := by omega
          obtain ⟨o, ho⟩ : ∃ o, Lx[q]? = some o := ⟨_, List.getElem?_eq_getElem (by have := HLx.out; omega)⟩
          have HNo : RowKit.Hid ((few8 Lx).take (q + 1) = (few8 Lx).take q ++ [cutO o]) := Lib.hid (map_take_next cutO ho hq2)
          obtain ⟨b', off', gAx, hbB', hpl'⟩ := (HRx.out.bl HI.out.below).place opCells_len' (by decide) (by omega)
          have HPo := Lib.hid (hpl' q o ho)
          rw [gAx] at e5
          clear ho hpl' hbB'
          go_upto_region 10 with fail
          refine wp_region_lit ?_
          refine wl_read (v := ?_) (some 37) rfl (by rfl) ?_ ?_
          rotate_left
          · go_simp; (try with_reducible rfl)
          simp only [Act.put, stA_, st0_, st1_]
          refine wl_read (v := ?_) (some 38) rfl (by rfl) ?_ ?_
          rotate_left
          · go_simp; (try with_reducible rfl)
          simp only [Act.put, stA_, st0_, st1_]
          refine wl_read (v := ?_) (some 39) rfl (by rfl) ?_ ?_
          rotate_left
          · go_simp; (try with_reducible rfl)
          simp only [Act.put, stA_, st0_, st1_]
          refine wl_read (v := ?_) (some 40) rfl (by rfl) ?_ ?_
          rotate_left
          · go_simp; (try with_reducible rfl)
          simp only [Act.put, stA_, st0_, st1_]
          refine wl_read (v := ?_) (some 41) rfl (by rfl) ?_ ?_
          rotate_left
          · go_simp; (try with_reducible rfl)
          simp only [Act.put, stA_, st0_, st1_]
          refine wl_load_at (some 42) rfl (by rfl) 53 (.tmp 41) rfl ⟨b', off' + q * 20, none⟩ rfl (opCells o) _ HPo.out Try.underlying53 rfl (by kernel_rfl) ?_
          simp only [Act.put, stA_, st0_, st1_]
          refine wl_new 8 rfl rfl rfl 53 (.tmp 42) rfl rfl #[.int .i64 0, .int .i64 0, .int .i64 0, .int .i64 0, .int .i64 0, .int .i64 0, .int .i64 0, .int .i64 0, .int .i64 0, .int .i64 0, .int .i64 0, .int .i64 0, .int .i64 0, .int .i64 0, .int .i64 0, .int .i64 0, .int .i64 0, .bool false, .string ⟨#[]⟩, .int .i64 0] ?_ (opCells o).toArray (by simp) rfl (by kernel_rfl) rfl (opCells_arr _) ?_
          · go_simp; (try with_reducible rfl)
          simp only [Act.put, stA_, st0_, st1_]
          have HI2 := Lib.hid (HI.out.up (below1 wp (.cells (opCells o).toArray 53)))
          have HY2 : RowKit.Hid (Whole (wp.alloc (.cells (opCells o).toArray 53)) wp.heap.size 53 (opCells o)) := Lib.hid (Whole.new_ _ _ _)
          have HX52 := Lib.hid (HX5.out.al (.cells (opCells o).toArray 53))
          have HX62 := Lib.hid (HX6.out.al (.cells (opCells o).toArray 53))
          have Hg8 : RowKit.Hid (b5 ≠ wp.heap.size ∧ b6 ≠ wp.heap.size ∧ wo.heap.size ≤ wp.heap.size) := Lib.hid (by have := HX5.out.lt; have := HX6.out.lt; have := HI.out.below.size; omega)
          have HNe : RowKit.Hid (some wp.heap.size ≠ _) := Lib.hid (Ow.ne_ HI.out (Nat.le_refl _))
          obtain ⟨W3, gW3⟩ : ∃ x, wp.alloc (.cells (opCells o).toArray 53) = x := ⟨_, rfl⟩
          obtain ⟨g8, gg8⟩ : ∃ x, wp.heap.size = x := ⟨_, rfl⟩
          rw [gW3] at HI2 HY2 HX52 HX62 ⊢
          rw [gg8] at HY2 Hg8 HNe ⊢
          clear gW3 gg8 HI HX5 HX6 HPo e5 gAx
          have y18 : W3.cell? ⟨g8, 18, none⟩ = some (.string o.t) := HY2.out.cell (i := 18) rfl
          have z18 := HY2.out.free 18
          obtain ⟨o', go'⟩ : ∃ z, cutO o = z := ⟨_, rfl⟩
          rw [go'] at HNo
          go_upto_region 11 with fail
          go_upto_if 46 with fail
          go_cut [] (fun z => Ow wo wo.heap.size 53 20 (.slice A q c) q (rowsV opCells ((few8 Lx).take q)) z ∧ Whole z b5 30 (stC (hd, (Ax, nx, cx, Lx))) ∧ Whole z b6 28 [.slice A q c] ∧ Whole z g8 53 (opCells o'))
          case first =>
            by_cases ht : 100 < o.t.size
            · have HC9 : RowKit.Hid (cutO o = { o with t := o.t.extract 0 100 }) := Lib.hid (by unfold cutO; rw [if_pos ht])
              have ht1 : (100 : Int) < (o.t.size : Int) := by omega
              have ht2 : 100 ≤ o.t.size := by omega
              have hY3 := HY2.out.set_ 18 (.string (o.t.extract 0 100))
              have hcc : (opCells o).set 18 (.string (o.t.extract 0 100)) = opCells o' := by rw [← go', HC9.out]; rfl
              rw [hcc] at hY3
              have HY3 := Lib.hid hY3
              have HX53 := Lib.hid (HX52.out.far (p := ⟨g8, 18, none⟩) Hg8.out.1 (.string (o.t.extract 0 100)))
              have HX63 := Lib.hid (HX62.out.far (p := ⟨g8, 18, none⟩) Hg8.out.2.1 (.string (o.t.extract 0 100)))
              have HI3 : RowKit.Hid (Ow wo wo.heap.size 53 20 (.slice A q c) q (rowsV opCells ((few8 Lx).take q)) (W3.setCell ⟨g8, 18, none⟩ (.string (o.t.extract 0 100)))) := Lib.hid ⟨own_cell_far HI2.out.own HNe.out _, HI2.out.below.setCell (p := ⟨g8, 18, none⟩) Hg8.out.2.2 _, HI2.out.lo, by simpa [World.setCell] using HI2.out.hi⟩
              clear hY3 hcc HC9 go' HI2 HX52 HX62 HY2 ht
              go_wp2
              go_meet
              exact ⟨HI3.out, HX53.out, HX63.out, HY3.out⟩
            · have ht1 : ¬ (100 : Int) < (o.t.size : Int) := by omega
              have hcc : o = o' := by rw [← go']; unfold cutO; rw [if_neg ht]
              have HY3 : RowKit.Hid (Whole W3 g8 53 (opCells o')) := Lib.hid (hcc ▸ HY2.out)
              clear hcc go' HY2 ht
              go_wp2
              go_meet
              exact ⟨HI2.out, HX52.out, HX62.out, HY3.out⟩
          case rest =>
            clear HI2 HX52 HX62 HY2 y18 z18 go'
            obtain ⟨hcI, hc5, hc6, hcY⟩ := hcut
            obtain ⟨wq, gwq⟩ : ∃ z, wc = z := ⟨_, rfl⟩
            rw [gwq] at hcI hc5 hc6 hcY ⊢
            have HI3 := Lib.hid hcI
            have HX53 := Lib.hid hc5
            have HX63 := Lib.hid hc6
            have HY3 := Lib.hid hcY
            clear gwq hcI hc5 hc6 hcY
            have e6 := HX63.out.cell (i := 0) rfl
            go_upto_region 13 with fail
            refine wp_region_lit ?_
            refine wl_read (v := ?_) (some 51) rfl (by rfl) ?_ ?_
            rotate_left
            · go_simp; (try with_reducible rfl)
            simp only [Act.put, stA_, st0_, st1_]
            refine wl_read (v := ?_) (some 52) rfl (by rfl) ?_ ?_
            rotate_left
            · go_simp; (try with_reducible rfl)
            simp only [Act.put, stA_, st0_, st1_]
            refine wl_load (some 53) rfl (by rfl) 53 (.tmp 8) rfl g8 rfl 53 (opCells o') _ HY3.out Try.underlying53 rfl (by kernel_rfl) ?_
            simp only [Act.put, stA_, st0_, st1_]
            refine wl_buildSlice (some 54) rfl (by rfl) 26 53 1 #[(0, .tmp 53)] rfl Try.underlying26 (opCells o').toArray (by kernel_rfl) ?_
            simp only [Act.put, stA_, st0_, st1_]
            have HL4 : RowKit.Hid (RdS (wq.alloc (.cells (opCells o').toArray 53)) (wq.alloc (.cells (opCells o').toArray 53)).heap.size 20 (some ⟨wq.heap.size, 0, none⟩) 1 1 (rowsV opCells [o'])) := Lib.hid (by rw [rowsOp1]; exact RdS.of_whole8 (Whole.new_ _ _ _) rfl)
            have HI4 := Lib.hid (HI3.out.up (below1 wq (.cells (opCells o').toArray 53)))
            have HX54 := Lib.hid (HX53.out.al (.cells (opCells o').toArray 53))
            have HX64 := Lib.hid (HX63.out.al (.cells (opCells o').toArray 53))
            obtain ⟨W4, gW4⟩ : ∃ z, wq.alloc (.cells (opCells o').toArray 53) = z := ⟨_, rfl⟩
            obtain ⟨g9, gg9⟩ : ∃ z, wq.heap.size = z := ⟨_, rfl⟩
            rw [gW4] at HL4 HI4 HX54 HX64 ⊢
            rw [gg9] at HL4 ⊢
            clear gW4 gg9 e6 HI3 HX53 HX63 HY3
            go_wp2_with (first
              | (at_builtin
                 refine wpList_push2 rfl (.tmp 52) (.tmp 54) _ rfl _ 53 i0 _ 20 168 Try.underlying26 hi hz0 hz1 hz2 rfl (by decide) _ _ _ rfl HI4.out _ _ _ _ _ rfl HL4.out (rowsV_one opCells opCells_one [o']) (by unfold maxLen; omega) (by omega) ?_
                 intro v5 W5 how5 hb5 hgr5
                 obtain ⟨A5, c5, rfl, -⟩ := how5.rds
                 have HI5 := Lib.hid how5
                 have HX55 := Lib.hid (HX54.out.grown hgr5 (own_ne HI4.out.own HX54.out (by decide)))
                 have HX65 := Lib.hid (HX64.out.grown hgr5 (own_ne HI4.out.own HX64.out (by decide)))
                 have m0 := HX65.out.cell (i := 0) rfl
                 have k0 := HX65.out.free 0
                 clear how5 hb5 hgr5))
            go_roundw
            case rel =>
              refine ⟨q + 1, A5, c5, by omega, by omega, by go_num, Lib.hid ⟨?_, HX55.out.far (p := ⟨b6, 0, none⟩) Hb.out.1 _, HX65.out.set_ 0 _⟩⟩
              rw [HNo.out, rowsV_app]
              exact ⟨own_cell_far HI5.out.own (own_ne HI5.out.own HX65.out (by decide)) _, HI5.out.below.setCell (p := ⟨b6, 0, none⟩) Hb.out.2.2 _, HI5.out.lo, by simpa [World.setCell] using HI5.out.hi⟩
            case measure => simp [intOf]; omega
        · obtain ⟨hq1, hq2⟩ := map_take_all cutO HLx.out hqn hq8 hqlt
          have hI := HI.out
          rw [show (few8 Lx).take q = few8 Lx from hq1] at hI
          have HIz := Lib.hid hI
          have Hq8 : RowKit.Hid (q ≤ 8) := Lib.hid hq8
          clear hI hq1 hq2 HI
          go_upto_region 8 with fail
          go_cut [34] (fun v z => v = .bool false ∧ z = wp)
          case first =>
            by_cases hqn2 : (q : Int) < (nx : Int)
            · have hj2 : decide ((q : Int) < 8) = false := decide_eq_false (fun p => hqlt ⟨by omega, by omega⟩)
              clear hqlt
              go_wp2
              go_meet
              exact ⟨rfl, rfl⟩
            · have hj2 : decide ((q : Int) < (nx : Int)) = false := decide_eq_false hqn2
              clear hqlt
              go_wp2
              go_meet
              exact ⟨rfl, rfl⟩
          case rest =>
            obtain ⟨rfl, hwc⟩ := hcut
            replace hwc := hwc.symm
            subst hwc
            clear hqlt e5 hq8 hqn
            have e5 := HX5.out.cell (i := 4) rfl
            have f5 := HX5.out.free 4
            have e6 := HX6.out.cell (i := 0) rfl
            have HY5 := Lib.hid (HX5.out.set_ 4 (.slice A q c))
            have HIy := Lib.hid (own_cell_far HIz.out.own (i := 4) (own_ne HIz.out.own HX5.out (by decide)) (.slice A q c))
            have HBy := Lib.hid (HIz.out.below.setCell (p := ⟨b5, 4, none⟩) Hb.out.2.1 (.slice A q c))
            have Hlo := Lib.hid (show w.heap.size ≤ wo.heap.size from HO.out.below.size)
            go_upto_region 15 with fail
            obtain ⟨wy, gwy⟩ : ∃ z, wp.setCell ⟨b5, 4, none⟩ (.slice A q c) = z := ⟨_, rfl⟩
            rw [gwy] at HY5 HIy HBy ⊢
            clear gwy e5 f5 e6 HX5 HX6 HIz
            obtain ⟨t, gt⟩ : ∃ t : StT, (hd, (A, q, c, few8 Lx)) = t := ⟨_, rfl⟩
            have hYt : Whole wy b5 30 (stC t) := by rw [← gt]; exact HY5.out
            have HYt := Lib.hid hYt
            have Gt := Lib.hid gt
            have HOy := Lib.hid (HO.out.up HBy.out)
            have HEy : RowKit.Hid (∀ s ∈ Ts, s.2.2.1 ≤ 8 ∧ wy.ownsRow w.heap.size 53 20 (.slice s.2.1 s.2.2.1 s.2.2.2.1) s.2.2.1 (rowsV opCells s.2.2.2.2)) := Lib.hid (fun s hs => ⟨(HE.out s hs).1, own_up (HE.out s hs).2 HBy.out⟩)
            have HIt := Lib.hid (own_lo8 HIy.out Hlo.out)
            clear hYt gt HY5 HIy HO HE
            refine wp_region_lit ?_
            refine wl_read (v := ?_) (some 59) rfl (by rfl) ?_ ?_
            rotate_left
            · go_simp; (try with_reducible rfl)
            simp only [Act.put, stA_, st0_, st1_]
            refine wl_load (some 60) rfl (by rfl) 30 (.tmp 5) rfl b5 rfl 30 (stC t) _ HYt.out Try.underlying30 rfl (by kernel_rfl) ?_
            simp only [Act.put, stA_, st0_, st1_]
            refine wl_buildSlice (some 61) rfl (by rfl) 22 30 1 #[(0, .tmp 60)] rfl Try.underlying22 (stC t).toArray (by kernel_rfl) ?_
            simp only [Act.put, stA_, st0_, st1_]
            have HL4 : RowKit.Hid (RdS (wy.alloc (.cells (stC t).toArray 30)) (wy.alloc (.cells (stC t).toArray 30)).heap.size 5 (some ⟨wy.heap.size, 0, none⟩) 1 1 (rowsV stC [t])) := Lib.hid (by rw [rowsS1]; exact RdS.of_whole8 (Whole.new_ _ _ _) rfl)
            have HO4 := Lib.hid (HOy.out.up (below1 wy (.cells (stC t).toArray 30)))
            have HE4 : RowKit.Hid (∀ s ∈ Ts, s.2.2.1 ≤ 8 ∧ (wy.alloc (.cells (stC t).toArray 30)).ownsRow w.heap.size 53 20 (.slice s.2.1 s.2.2.1 s.2.2.2.1) s.2.2.1 (rowsV opCells s.2.2.2.2)) := Lib.hid (fun s hs => ⟨(HEy.out s hs).1, own_up (HEy.out s hs).2 (below1 wy _)⟩)
            have HI4 := Lib.hid (own_up HIt.out (below1 wy (.cells (stC t).toArray 30)))
            obtain ⟨W4, gW4⟩ : ∃ z, wy.alloc (.cells (stC t).toArray 30) = z := ⟨_, rfl⟩
            obtain ⟨g9, gg9⟩ : ∃ z, wy.heap.size = z := ⟨_, rfl⟩
            rw [gW4] at HL4 HO4 HE4 HI4 ⊢
            rw [gg9] at HL4 ⊢
            clear gW4 gg9 HOy HEy HIt HYt
            go_wp2_with (first
              | (at_builtin
                 refine wpList_push2 rfl (.tmp 59) (.tmp 61) _ rfl _ 30 iS _ 5 56 Try.underlying22 hiS zS0 zS1 zS2 rfl (by decide) _ _ _ rfl HO4.out _ _ _ _ _ rfl HL4.out (rowsV_one stC stC_one [t]) (by unfold maxLen; omega) (by omega) ?_
                 intro v5 W5 how5 hb5 hgr5
                 obtain ⟨A5, c5, rfl, -⟩ := how5.rds
                 have HO5 := Lib.hid how5
                 have HE5 : RowKit.Hid (∀ s ∈ Ts, s.2.2.1 ≤ 8 ∧ W5.ownsRow w.heap.size 53 20 (.slice s.2.1 s.2.2.1 s.2.2.2.1) s.2.2.1 (rowsV opCells s.2.2.2.2)) := Lib.hid (fun s hs => ⟨(HE4.out s hs).1, own_grow (HE4.out s hs).2 HO4.out.own (by decide) hgr5⟩)
                 have HI5 := Lib.hid (own_grow HI4.out HO4.out.own (by decide) hgr5)
                 clear how5 hb5 hgr5))
            go_roundw
            case rel =>
              refine ⟨k + 1, Ts ++ [t], by omega, by omega, by go_num, Lib.hid (by rw [rowsV_app]; exact HO5.out), Lib.hid ?_, Lib.hid (fun s hs => ?_)⟩
              · rw [HNx.out, List.map_append, HT.out, ← Gt.out]
                rfl
              · rcases List.mem_append.1 hs with hs | hs
                · exact HE5.out s hs
                · obtain rfl := List.mem_singleton.1 hs
                  rw [← Gt.out]
                  exact ⟨Hq8.out, HI5.out⟩
            case measure => simp [intOf]; omega
    · obtain ⟨hq1, hq2⟩ := map_take_all (fun s : SD => (s.1, few8 s.2)) Hl.out hkn hk30 hlt
      have hT := HT.out
      rw [show (fewS (Ls.map sdT)).take k = fewS (Ls.map sdT) from hq1] at hT
      have HTz := Lib.hid hT
      have Hk30 : RowKit.Hid (k ≤ 30) := Lib.hid hk30
      have HF8 : RowKit.Hid (∀ s ∈ Ts, s.2.2.1 ≤ 8) := Lib.hid (fun s hs => (HE.out s hs).1)
      have HFw : RowKit.Hid (StW w.heap.size wo (.slice Ac k cc) k Ts) := Lib.hid ⟨HO.out.own, fun s hs => (HE.out s hs).2⟩
      clear hT hq1 hq2 HT HE
      by_cases hl1 : (k : Int) < (n : Int)
      · have hi2 : decide ((k : Int) < 30) = false := decide_eq_false (fun p => hlt ⟨by omega, by omega⟩)
        clear hlt
        go_wp2
        go_ret
        first
        | exact ⟨Ac, cc, Ts, k, rfl, Hk30.out, HTz.out, HFw.out, HF8.out, HO.out.below⟩
        | exact ⟨Ac, cc, Ts, k, rfl, Hk30.out, HTz.out, HFw.out, fun _ _ _ _ _ _ _ _ hs => HF8.out _ hs, HO.out.below⟩
      · have hi2 : decide ((k : Int) < (n : Int)) = false := decide_eq_false hl1
        clear hlt
        go_wp2
        go_ret
        first
        | exact ⟨Ac, cc, Ts, k, rfl, Hk30.out, HTz.out, HFw.out, HF8.out, HO.out.below⟩
        | exact ⟨Ac, cc, Ts, k, rfl, Hk30.out, HTz.out, HFw.out, fun _ _ _ _ _ _ _ _ hs => HF8.out _ hs, HO.out.below⟩
end Go.Proofs.Ytinfbaflkjghhaa
/- Bytes as digits; the builder's WriteByte; the document's digits. -/
namespace Go.Proofs.Ytinfbaflkjghhaa
open Go.RowKit
def hxd (d : Nat) : Nat := if d < 10 then 48 + d else 87 + d
theorem hxd_lt {d : Nat} (h : d < 16) : hxd d < 256 := by unfold hxd; split <;> omega
/-- Bytes as digits, the higher first. -/
def dgs (B : List Nat) : List Nat := B.flatMap (fun b => [hxd (b / 16), hxd (b % 16)])
theorem dgs_len (B : List Nat) : (dgs B).length = 2 * B.length := by
  induction B with
  | nil => rfl
  | cons b B ih => unfold dgs at *; simp [ih]; omega
theorem dgs_lt {B : List Nat} (hb : ∀ b ∈ B, b < 256) : ∀ c ∈ dgs B, c < 256 := fun c hc => by
  obtain ⟨b, hbm, hc⟩ := List.mem_flatMap.1 hc
  have := hb b hbm
  simp only [List.mem_cons, List.not_mem_nil, or_false] at hc
  rcases hc with rfl | rfl
  · exact hxd_lt (by omega)
  · exact hxd_lt (by omega)
theorem dgs_next {B : List Nat} {k b : Nat} (h : B[k]? = some b) : dgs (B.take (k + 1)) = dgs (B.take k) ++ [hxd (b / 16), hxd (b % 16)] := by
  rw [List.take_add_one, h]
  simp [dgs, List.flatMap_append]
theorem hex_at {d : Nat} (h : d < 16) : ({ data := #[48, 49, 50, 51, 52, 53, 54, 55, 56, 57, 97, 98, 99, 100, 101, 102] } : ByteArray)[d]? = some (UInt8.ofNat (hxd d)) := by
  have : d = 0 ∨ d = 1 ∨ d = 2 ∨ d = 3 ∨ d = 4 ∨ d = 5 ∨ d = 6 ∨ d = 7 ∨ d = 8 ∨ d = 9 ∨ d = 10 ∨ d = 11 ∨ d = 12 ∨ d = 13 ∨ d = 14 ∨ d = 15 := by omega
  rcases this with rfl | rfl | rfl | rfl | rfl | rfl | rfl | rfl | rfl | rfl | rfl | rfl | rfl | rfl | rfl | rfl <;> rfl
theorem idx_hex (k : IntKind) (d : Nat) (hd : d < 16) (W : World) : (Instr.index 9 (.string { data := #[48, 49, 50, 51, 52, 53, 54, 55, 56, 57, 97, 98, 99, 100, 101, 102] }) (.int k (d : Int))).run Try.prog W = .ok (.int .u8 (hxd d : Int)) W := by
  simp only [Instr.index, asIntOf, Sem.run_bind, Sem.run_pure, Result.andThen_ok, run_underlying (Try.underlying9)]
  rw [if_pos (by omega), Int.toNat_natCast, hex_at hd]
  simp only [Sem.run_pure]
  have := hxd_lt hd
  congr 3
  simp [Nat.mod_eq_of_lt this]
theorem txt_data (L : List Nat) : (txt L).data.toList = L.map UInt8.ofNat := by
  have := txt_list L
  rwa [ByteArray.toList_eq] at this
theorem ba_ext {a b : ByteArray} (h : a.data.toList = b.data.toList) : a = b := by
  cases a; cases b
  simp only [ByteArray.mk.injEq]
  exact Array.toList_inj.1 h
theorem txt_app (L M : List Nat) : txt L ++ txt M = txt (L ++ M) := ba_ext (by
  rw [txt_data, List.map_append, ← txt_data, ← txt_data]
  simp)
theorem txt_mk (L : List Nat) : (⟨(L.map UInt8.ofNat).toArray⟩ : ByteArray) = txt L := ba_ext (by rw [txt_data])
theorem bytes_rows {L : List Nat} (h : ∀ b ∈ L, b < 256) : Lib.byteCells (L.map UInt8.ofNat) = rowsV f8 L := by
  rw [rowsV_map8]
  unfold Lib.byteCells
  rw [List.map_map]
  refine List.map_congr_left fun b hb => ?_
  have := h b hb
  simp [Nat.mod_eq_of_lt this]
/-- A builder that holds bytes. -/
structure Bld (lo : Nat) (W : World) (g : Nat) (p v : Value) (X : List Nat) : Prop where
  cells : Whole W g 64 [p, v]
  ptr : p = .pointer none ∨ p = .pointer (some ⟨g, 0, none⟩)
  row : W.ownsRow lo 5 1 v X.length (rowsV f8 X)
  lo : lo ≤ g
theorem Bld.bl {lo g : Nat} {W W' : World} {p v : Value} {X : List Nat} (h : Bld lo W g p v X) (hb : Below W.heap.size W W') : Bld lo W' g p v X := ⟨h.cells.bl hb, h.ptr, own_up h.row hb, h.lo⟩
theorem info_bld : (Try.prog.info? 64).map (·.size) = some 2 := by kernel_rfl
set_option maxRecDepth 100000 in
theorem ccheck_any (g : Nat) (p v : Value) (w : World) (h : Whole w g 64 [p, v]) (hp : p = .pointer none ∨ p = .pointer (some ⟨g, 0, none⟩)) :
    Calls Try.prog 49 #[.pointer (some ⟨g, 0, none⟩)] w fun e w' => e = .returned (.tuple #[]) ∧ ((p = .pointer none ∧ w' = w.setCell ⟨g, 0, none⟩ (.pointer (some ⟨g, 0, none⟩))) ∨ (p = .pointer (some ⟨g, 0, none⟩) ∧ w' = w)) := by
  obtain ⟨j, hj, hjs⟩ := Option.map_eq_some_iff.1 info_bld
  have h0 := h.cell (i := 0) rfl
  have hfz := h.free 0
  rcases hp with rfl | rfl
  · have hsh : w.shape? g = some (64, 2) := by unfold Whole at h; simp [World.shape?, h]
    go_enter Try.func49, Try.ntmps49
    go_wp2
    rw [Lib.run_to_unsafe w ⟨g, 0, none⟩ Try.underlying62 Try.underlying113 hj (by rw [hjs]; decide) hsh (Nat.zero_lt_succ 1)]
    simp only [Result.andThen]
    rw [Oper.upon_value]
    go_wp2
    rw [run_callFunc_extern Try.func68 (by kernel_rfl) (by kernel_rfl) (by kernel_rfl) (e := Extern.AbiNoEscape.same) (by kernel_rfl)]
    rw [Lib.run_noEscape]
    simp only [Result.andThen]
    rw [Oper.upon_value]
    go_wp2
    rw [Lib.run_from_unsafe w ⟨g, 0, none⟩ Try.underlying113 Try.underlying62 hj hsh (by kernel_rfl)]
    simp only [Result.andThen]
    rw [Oper.upon_value]
    go_wp2
    go_end0
    refine ⟨rfl, ?_⟩
    simp
  · go_enter Try.func49, Try.ntmps49
    go_wp2
    rw [Lib.run_neq_ptr_same w _ Try.underlying62 hj]
    go_wp2
    go_end0
    refine ⟨rfl, ?_⟩
    simp
set_option maxRecDepth 100000 in
set_option maxHeartbeats 4000000 in
theorem wb_any (lo g : Nat) (p v : Value) (X : List Nat) (b : Nat) (w : World) (h : Bld lo w g p v X) (hn : X.length ≤ 100000000) :
    Calls Try.prog 29 #[.pointer (some ⟨g, 0, none⟩), .int .u8 (b : Int)] w fun e w' => ∃ v', e = .returned .nilIface ∧ Bld lo w' g (.pointer (some ⟨g, 0, none⟩)) v' (X ++ [b]) ∧ Kept (fun i => i = g ∨ some i = v.ownBlock) w w' ∧ (v'.ownBlock = v.ownBlock ∨ ∀ i, v'.ownBlock = some i → w.heap.size ≤ i) := by
  obtain ⟨i0, hi, hz0, hz1, hz2⟩ := info_parts_ info_u8
  have H := Lib.hid h
  clear h
  go_enter Try.func29, Try.ntmps29
  go_wp2_with fail
  refine (ccheck_any g p v w H.out.cells H.out.ptr).mono ?_
  rintro e w1 ⟨rfl, hw⟩
  have hne : some g ≠ v.ownBlock := own_ne_ H.out.row H.out.cells (by decide)
  have h1 : Whole w1 g 64 [.pointer (some ⟨g, 0, none⟩), v] ∧ w1.ownsRow lo 5 1 v X.length (rowsV f8 X) ∧ Kept (fun i => i = g ∨ some i = v.ownBlock) w w1 ∧ w1.heap.size = w.heap.size := by
    rcases hw with ⟨rfl, rfl⟩ | ⟨rfl, rfl⟩
    · exact ⟨H.out.cells.set_ 0 _, own_cell_far H.out.row hne _, Kept.setCell (Kept.refl _ w) (p := ⟨g, 0, none⟩) (.inl (.inl rfl)) _, by simp [World.setCell]⟩
    · exact ⟨H.out.cells, H.out.row, Kept.refl _ _, rfl⟩
  obtain ⟨hc1, hr1, hk1, hs1⟩ := h1
  have hlo1 : lo ≤ w1.heap.size := by have := H.out.lo; have := hc1.lt; omega
  have hr2 := own_up hr1 (below1 w1 (.cells #[.int .u8 (b : Int)] 5))
  have hob := one8 w1 b
  have hc2 := hc1.al (.cells #[.int .u8 (b : Int)] 5)
  have hk2 := hk1.alloc (.cells #[.int .u8 (b : Int)] 5)
  have hs2 : (w1.alloc (.cells #[.int .u8 (b : Int)] 5)).heap.size = w.heap.size + 1 := by simp [hs1]
  have HX0 := H.out.row.1
  obtain ⟨N, gN⟩ : ∃ z, X.length = z := ⟨_, rfl⟩
  rw [gN] at hr2
  have hN : N ≤ 100000000 := by omega
  obtain ⟨v', w3, hrun, hown, hgr, -, hob2⟩ := run_append_own_at (P := Try.prog) (w1.alloc (.cells #[.int .u8 (b : Int)] 5)) lo 23 23 5 i0 _ 1 1 Try.underlying23 hi hz0 hz1 hz2 rfl (by decide) v N _ hr2 ⟨w1.heap.size, 0, none⟩ 1 1 _ hob.len (hob.cell _ rfl) (f8_all _) (by unfold maxLen; omega) (by omega) (by rw [hs2]; omega)
  obtain ⟨Av, cv, rfl, -⟩ := RdS.of_own hown
  rw [← rows8_app] at hown
  have hc3 := hc2.grown hgr hne
  have c1 := hc1.cell (i := 1) rfl
  have d1 := hc3.cell (i := 1) rfl
  have f1 := hc3.free 1
  have hne3 : some g ≠ (Value.slice Av (N + 1) cv).ownBlock := own_ne_ hown hc3 (by decide)
  have HRun := Lib.hid hrun
  have HC : RowKit.Hid (Bld lo (w3.setCell ⟨g, 1, none⟩ (.slice Av (N + 1) cv)) g (.pointer (some ⟨g, 0, none⟩)) (.slice Av (N + 1) cv) (X ++ [b])) := Lib.hid ⟨hc3.set_ 1 _, .inr rfl, by rw [List.length_append, gN]; exact own_cell_far hown hne3 _, H.out.lo⟩
  have HK : RowKit.Hid (Kept (fun i => i = g ∨ some i = v.ownBlock) w (w3.setCell ⟨g, 1, none⟩ (.slice Av (N + 1) cv))) := Lib.hid (Kept.setCell (hk2.trans (kept_grow hgr (fun i hi => .inr hi))) (p := ⟨g, 1, none⟩) (.inl (.inl rfl)) _)
  have HOb : RowKit.Hid ((Value.slice Av (N + 1) cv).ownBlock = v.ownBlock ∨ ∀ i, (Value.slice Av (N + 1) cv).ownBlock = some i → w.heap.size ≤ i) := Lib.hid (hob2.imp id (fun h i hi => by rw [h] at hi; injection hi with hi; omega))
  clear hrun hown hgr hob2 hc3 hne3 hc1 hr1 hk1 hs1 hr2 hob hc2 hk2 hs2 hlo1 HX0 hw hne gN
  go_wp2_with (first
    | (at_builtin
       refine wpList_app rfl (.tmp 11) (.tmp 13) _ rfl rfl rfl HRun.out ?_))
  go_ret
  exact ⟨_, rfl, HC.out, HK.out, HOb.out⟩
set_option maxRecDepth 100000 in
set_option maxHeartbeats 4000000 in
theorem digs_any (A : Option Addr) (n c : Nat) (B : List Nat) (w : World) (hl : B.length = n) (h : RdS w w.heap.size 1 A n c (rowsV f8 B)) (hn : n ≤ 100000) (hb : ∀ b ∈ B, b < 256) :
    Calls Try.prog 31 #[.slice A n c] w fun e w' => e = .returned (.string (txt (dgs B))) ∧ Below w.heap.size w w' := by
  have H := Lib.hid h
  have Hl := Lib.hid hl
  have Hb := Lib.hid hb
  clear h hl hb
  go_enter Try.func31, Try.ntmps31
  go_upto_region 3 with fail
  obtain ⟨wS, gwS⟩ : ∃ z, w.alloc (.cells #[] 5) = z := ⟨_, rfl⟩
  have HO0 : RowKit.Hid (Ow w w.heap.size 5 1 (.slice (some ⟨w.heap.size, 0, none⟩) 0 0) 0 (rowsV f8 (dgs (B.take 0))) wS) := Lib.hid (gwS ▸ Ow.new_ (cs := #[]) (Below.refl _ _) (Nat.le_refl _) (Nat.le_refl _) (Nat.zero_le _) rfl)
  obtain ⟨Az, gAz⟩ : ∃ z : Option Addr, some (⟨w.heap.size, 0, none⟩ : Addr) = z := ⟨_, rfl⟩
  rw [gwS, gAz]
  rw [gAz] at HO0
  clear gwS gAz
  go_loopw [3, 4] (fun v i wr => ∃ (k m : Nat) (A1 : Option Addr) (c1 : Nat), k ≤ n ∧ m = 2 * k ∧ v = .slice A1 m c1 ∧ i = .int .i64 (k : Int) ∧ RowKit.Hid (Ow w w.heap.size 5 1 (.slice A1 m c1) m (rowsV f8 (dgs (B.take k))) wr)) (fun _ i _ => n - (intOf i).toNat)
  case atStart => exact ⟨0, 0, Az, 0, Nat.zero_le _, rfl, rfl, rfl, HO0⟩
  case round =>
    clear HO0
    obtain ⟨k, m, A1, c1, hk, hm, rfl, rfl, HO⟩ := hrel
    obtain ⟨wo, gwo⟩ : ∃ z, wr = z := ⟨_, rfl⟩
    rw [gwo] at HO ⊢
    clear gwo
    by_cases hlt : k < n
    · have hltI : (k : Int) < (n : Int) := by omega
      obtain ⟨b, hx⟩ : ∃ b, B[k]? = some b := ⟨_, List.getElem?_eq_getElem (by have := Hl.out; omega)⟩
      have hb8 : b < 256 := Hb.out b (List.mem_of_getElem? hx)
      have hN := dgs_next hx
      have hd1 : b / 16 < 16 := by omega
      have hd2 : b % 16 < 16 := by omega
      have hi1 := fun W => idx_hex .u8 (b / 16) hd1 W
      have hi2 := fun W => idx_hex .u8 (b % 16) hd2 W
      obtain ⟨h1, gh1⟩ : ∃ z, hxd (b / 16) = z := ⟨_, rfl⟩
      obtain ⟨h2, gh2⟩ : ∃ z, hxd (b % 16) = z := ⟨_, rfl⟩
      rw [gh1] at hN hi1
      rw [gh2] at hN hi2
      obtain ⟨d1, gd1⟩ : ∃ z, b / 16 = z := ⟨_, rfl⟩
      obtain ⟨d2, gd2⟩ : ∃ z, b % 16 = z := ⟨_, rfl⟩
      rw [gd1] at hi1
      rw [gd2] at hi2
      have q1 : (b : Int).tdiv 16 = (d1 : Int) := by rw [Int.tdiv_eq_ediv_of_nonneg (by omega)]; omega
      have q1b : (b : Int) / 16 = (d1 : Int) := by omega
      have q2 : (b : Int).tmod 16 = (d2 : Int) := by rw [Int.tmod_eq_emod_of_nonneg (by omega)]; omega
      have q2b : (b : Int) % 16 = (d2 : Int) := by omega
      have q3 : IntKind.u8.wrap (d1 : Int) = (d1 : Int) := by rw [IntKind.wrap_u8]; omega
      have q4 : IntKind.u8.wrap (d2 : Int) = (d2 : Int) := by rw [IntKind.wrap_u8]; omega
      have HN := Lib.hid hN
      obtain ⟨m1, gm1⟩ : ∃ z, m + 2 = z := ⟨_, rfl⟩
      have Hm1 : RowKit.Hid (m1 = 2 * (k + 1)) := Lib.hid (by omega)
      have hm2 : m ≤ 200000 := by omega
      obtain ⟨bb, off, hA, hbB, hpl⟩ := byte_at H.out (by omega)
      have hbB' : bb < w.heap.size := hbB
      subst hA
      have l0 := (HO.out.below.cell (p := ⟨bb, off + k, none⟩) hbB).trans (hpl k b hx)
      have HNb : RowKit.Hid (¬ some bb = (Value.slice A1 m c1).ownBlock) := Lib.hid (fun e => by have := (HO.out.own.lt bb e.symm).1; omega)
      have HOd : RowKit.Hid (Ow w w.heap.size 5 1 (.slice A1 m c1) m (rowsV f8 (dgs (B.take k))) wo.drew) := Lib.hid ⟨HO.out.own, HO.out.below.drew, HO.out.lo, HO.out.hi⟩
      clear hx hb8 hN hd1 hd2 gh1 gh2 gd1 gd2 hpl hbB hbB' HO hm
      go_upto_region 5 with fail
      have ld0 : ∀ w', Kept (fun i => some i = (Value.slice A1 m c1).ownBlock) wo.drew w' → w'.cell? ⟨bb, off + k, none⟩ = some (.int .u8 (b : Int)) := fun w' h => h.cell (p := ⟨bb, off + k, none⟩) l0 HNb.out
      clear l0
      refine wp_region_reg (fun i => some i = (Value.slice A1 m c1).ownBlock) (by kernel_rfl) ?_
      refine opR_ 0 12 (v := ?_) ?_ ?_; rotate_left
      · intro w' hw'; go_simp; (try with_reducible rfl)
      simp only [st0_, st1_]
      refine opR_ 1 13 (v := ?_) ?_ ?_; rotate_left
      · intro w' hw'; go_simp; (try with_reducible rfl)
      simp only [st0_, st1_]
      refine opR_ 2 14 (v := ?_) ?_ ?_; rotate_left
      · intro w' hw'; go_simp; (try with_reducible rfl)
      simp only [st0_, st1_]
      refine opR_ 3 15 (v := ?_) ?_ ?_; rotate_left
      · intro w' hw'; go_simp; (try with_reducible rfl)
      simp only [st0_, st1_]
      refine opR_ 4 16 (v := ?_) ?_ ?_; rotate_left
      · intro w' hw'; go_simp; (try with_reducible rfl)
      simp only [st0_, st1_]
      refine opR_ 5 17 (v := ?_) ?_ ?_; rotate_left
      · intro w' hw'; go_simp; (try with_reducible rfl)
      simp only [st0_, st1_]
      refine opR_ 6 18 (v := ?_) ?_ ?_; rotate_left
      · intro w' hw'; go_simp; (try with_reducible rfl)
      simp only [st0_, st1_]
      refine opR_ 7 19 (v := ?_) ?_ ?_; rotate_left
      · intro w' hw'; go_simp; (try with_reducible rfl)
      simp only [st0_, st1_]
      refine opR_ 8 20 (v := ?_) ?_ ?_; rotate_left
      · intro w' hw'; go_simp; (try with_reducible rfl)
      simp only [st0_, st1_]
      refine opR_ 9 21 (v := ?_) ?_ ?_; rotate_left
      · intro w' hw'; go_simp; (try with_reducible rfl)
      simp only [st0_, st1_]
      refine opR_ 10 22 (v := ?_) ?_ ?_; rotate_left
      · intro w' hw'; go_simp; (try with_reducible rfl)
      simp only [st0_, st1_]
      refine opR_ 11 23 (v := ?_) ?_ ?_; rotate_left
      · intro w' hw'; go_simp; (try with_reducible rfl)
      simp only [st0_, st1_]
      refine opR_ 12 24 (v := ?_) ?_ ?_; rotate_left
      · intro w' hw'; go_simp; (try with_reducible rfl)
      simp only [st0_, st1_]
      apply wpR_run 13 (some 25)
      · rfl
      · rfl
      · kernel_rfl
      · rfl
      intro w' hw'
      refine ⟨.slice (some ⟨w'.heap.size, 0, none⟩) 2 2, w'.alloc (.cells #[.int .u8 (h1 : Int), .int .u8 (h2 : Int)] 5), exec_buildSlice 23 5 2 #[(0, .tmp 18), (1, .tmp 24)] (by rfl) Try.underlying23 _ (by kernel_rfl), Kept.of_below (below1 _ _), ?_⟩
      have HXd : RowKit.Hid (Ext wo.drew (w'.alloc (.cells #[.int .u8 (h1 : Int), .int .u8 (h2 : Int)] 5))) := Lib.hid (Ext.trans hw' (below1 _ _))
      have HL : RowKit.Hid (RdS (w'.alloc (.cells #[.int .u8 (h1 : Int), .int .u8 (h2 : Int)] 5)) (w'.alloc (.cells #[.int .u8 (h1 : Int), .int .u8 (h2 : Int)] 5)).heap.size 1 (some ⟨w'.heap.size, 0, none⟩) 2 2 (rowsV f8 [h1, h2])) := Lib.hid (RdS.of_whole8 (Whole.new_ _ _ [_, _]) rfl)
      obtain ⟨W3, gW3⟩ : ∃ z, w'.alloc (.cells #[.int .u8 (h1 : Int), .int .u8 (h2 : Int)] 5) = z := ⟨_, rfl⟩
      obtain ⟨g3, gg3⟩ : ∃ z, w'.heap.size = z := ⟨_, rfl⟩
      rw [gW3] at HXd HL ⊢
      rw [gg3] at HL ⊢
      clear hw' gW3 gg3
      simp only [Act.put, stA_, st0_, st1_]
      apply wpR_run 14 (some 26)
      · rfl
      · rfl
      · kernel_rfl
      · rfl
      intro w' hw'
      have hO8 := HOd.out.up (Ext.trans HXd.out hw')
      obtain ⟨A8, c8, w8, hrun8, ho8, hgr8⟩ := app8 23 hO8 (HL.out.bl hw') (by omega)
      refine ⟨_, w8, exec_append (by rfl) (by rfl) (by rfl) hrun8, kept_grow hgr8 (fun i hi => hi), ?_⟩
      have HO9 := Lib.hid ho8
      clear hw' hO8 hrun8 ho8 hgr8 HXd HL HOd
      simp only [Act.put, stA_, st0_, st1_]
      refine opR_ 15 3 (v := ?_) ?_ ?_; rotate_left
      · intro w' hw'; go_simp; (try with_reducible rfl)
      simp only [st0_, st1_]
      refine wpR_done (by kernel_rfl) ?_ _
      intro W9 hw9
      have HO10 := Lib.hid (HO9.out.up hw9)
      rw [← HN.out, gm1] at HO10
      rw [gm1]
      clear hw9 HO9 ld0 q1 q1b q2 q2b q3 q4 hi1 hi2 HN HNb gm1
      go_wp2
      go_roundw
      case rel => exact ⟨k + 1, m1, A8, c8, by omega, Hm1.out, rfl, by go_num, HO10⟩
      case measure => simp [intOf]; omega
    · obtain rfl : n = k := by omega
      obtain ⟨_, _, he, hrd⟩ := HO.out.rds
      injection he with q1 q2 q3
      subst q1 q3
      rw [List.take_of_length_le (by rw [Hl.out]; exact Nat.le_refl _)] at hrd
      have hcv := conv_txt hrd
      have HB := Lib.hid HO.out.below
      clear hrd HO hm
      go_wp2
      go_ret
      exact ⟨rfl, HB.out⟩
end Go.Proofs.Ytinfbaflkjghhaa
/- Print, and the document's own; the document's example. -/
namespace Go.Proofs.Ytinfbaflkjghhaa
open Go.RowKit
/-- A step's line, and a script. -/
def lnB (x : SD) : List Nat := dgs (sdB x) ++ [10]
def prB (X : List SD) : List Nat := X.flatMap lnB
def prE : List SD → Int
  | [] => 0
  | x :: X => if sdE x = 0 then prE X else sdE x
def prS (X : List SD) : List Nat := if prE X = 0 then prB X else []
theorem prE_app : ∀ (X Y : List SD), prE X = 0 → prE (X ++ Y) = prE Y
  | [], Y, _ => rfl
  | x :: X, Y, h => by
    have h2 : (if sdE x = 0 then prE X else sdE x) = 0 := h
    show (if sdE x = 0 then prE (X ++ Y) else sdE x) = _
    by_cases hx : sdE x = 0
    · rw [if_pos hx] at h2 ⊢
      exact prE_app X Y h2
    · rw [if_neg hx] at h2
      exact absurd h2 hx
theorem prE_next {X : List SD} {k : Nat} {x : SD} (hx : X[k]? = some x) (h : prE (X.take k) = 0) (h0 : sdE x = 0) : prE (X.take (k + 1)) = 0 := by
  rw [List.take_add_one, hx, prE_app _ _ h]
  show (if sdE x = 0 then prE [] else sdE x) = 0
  rw [if_pos h0]
  rfl
theorem prE_bad {X : List SD} {k : Nat} {x : SD} (hx : X[k]? = some x) (h : prE (X.take k) = 0) (h0 : ¬ sdE x = 0) : prE X = sdE x := by
  have e : X = X.take k ++ (x :: X.drop (k + 1)) := by
    conv => lhs; rw [← List.take_append_drop k X]
    congr 1
    rw [List.drop_eq_getElem_cons (List.getElem?_eq_some_iff.1 hx).1, (List.getElem?_eq_some_iff.1 hx).2]
  rw [e, prE_app _ _ h]
  show (if sdE x = 0 then _ else sdE x) = _
  rw [if_neg h0]
theorem prB_next {X : List SD} {k : Nat} {x : SD} (hx : X[k]? = some x) : prB (X.take (k + 1)) = prB (X.take k) ++ lnB x := by
  rw [List.take_add_one, hx]
  simp [prB, List.flatMap_append]
theorem lnB_lt (x : SD) : ∀ c ∈ lnB x, c < 256 := fun c hc => by
  rcases List.mem_append.1 hc with h | h
  · exact dgs_lt (sdB_lt x) c h
  · obtain rfl := List.mem_singleton.1 h; decide
theorem prB_lt (X : List SD) : ∀ c ∈ prB X, c < 256 := fun c hc => by
  obtain ⟨x, -, hc⟩ := List.mem_flatMap.1 hc
  exact lnB_lt x c hc
theorem lnB_len {x : SD} (h : sdE x = 0) : (lnB x).length ≤ 343 := by
  unfold lnB
  rw [List.length_append, dgs_len]
  have := (sdB_len h).2
  simp only [List.length_singleton]
  omega
theorem prB_len : ∀ (X : List SD), prE X = 0 → (prB X).length ≤ 343 * X.length
  | [], _ => Nat.le_refl _
  | x :: X, h => by
    have h2 : (if sdE x = 0 then prE X else sdE x) = 0 := h
    by_cases hx : sdE x = 0
    · rw [if_pos hx] at h2
      have := prB_len X h2
      have h3 := lnB_len hx
      show (lnB x ++ prB X).length ≤ 343 * (X.length + 1)
      rw [List.length_append]
      omega
    · rw [if_neg hx] at h2
      exact absurd h2 hx
theorem sdP_ok {x : SD} (h : sdE x = 0) : sdP x = sdB x := by unfold sdP; rw [if_pos h]
def GivesPr (w : World) (X : List SD) (e : Ending) (w' : World) : Prop := e = .returned (.tuple #[.string (txt (prS X)), .int .i64 (prE X)]) ∧ Below w.heap.size w w'
theorem and_15 : ∀ b : Nat, b < 256 → bits .and .u8 (b : Int) 15 = ((b % 16 : Nat) : Int) := by
  have h : ∀ b : Fin 256, bits .and .u8 (b.val : Int) 15 = ((b.val % 16 : Nat) : Int) := by decide +kernel
  exact fun b hb => h ⟨b, hb⟩
/-- What stands beside the builder is kept. -/
def NoBl (g : Nat) (v : Value) (A : Option Addr) (n : Nat) : Prop := ∀ a, A = some a → 0 < n → a.block ≠ g ∧ some a.block ≠ v.ownBlock
theorem NoBl.on {g n c : Nat} {v v' : Value} {A : Option Addr} {w w' : World} {xs : List Value} (h : NoBl g v A n) (hr : RdS w w.heap.size 1 A n c xs) (ho : v'.ownBlock = v.ownBlock ∨ ∀ i, v'.ownBlock = some i → w.heap.size ≤ i) : NoBl g v' A n := fun a ha h0 => ⟨(h a ha h0).1, by
  rcases ho with ho | ho
  · rw [ho]; exact (h a ha h0).2
  · intro e
    have h1 := ho _ e.symm
    have h2 := hr.low a ha h0
    omega⟩
theorem NoBl.keep {g n c : Nat} {v : Value} {A : Option Addr} {w w' : World} {xs : List Value} (h : NoBl g v A n) (hr : RdS w w.heap.size 1 A n c xs) (hk : Kept (fun i => i = g ∨ some i = v.ownBlock) w w') : RdS w' w'.heap.size 1 A n c xs :=
  hr.kept_ne hk (fun a ha h0 q => q.elim (h a ha h0).1 (h a ha h0).2)
theorem Bld.below {lo g : Nat} {w w' : World} {p v : Value} {X : List Nat} {w0 : World} (h : Bld lo w g p v X) (hb : Below w0.heap.size w0 w) (hk : Kept (fun i => i = g ∨ some i = v.ownBlock) w w') (hl : w0.heap.size ≤ lo) : Below w0.heap.size w0 w' :=
  Below.trans hb (hk.below hb.size (fun i hi q => by
    rcases q with rfl | q
    · have := h.lo; omega
    · have := (h.row.lt i q.symm).1; omega))
theorem bstr_any (lo g : Nat) (p v : Value) (X : List Nat) (w : World) (h : Bld lo w g p v X) (hx : ∀ b ∈ X, b < 256) :
    Calls Try.prog 30 #[.pointer (some ⟨g, 0, none⟩)] w fun e w' => e = .returned (.string (txt X)) ∧ Below lo w w' := by
  have hrow : w.ownsRow lo 5 1 v (Lib.byteCells (X.map UInt8.ofNat)).length (Lib.byteCells (X.map UInt8.ofNat)) := by
    rw [bytes_rows hx, rows8_len]
    exact h.row
  have hne : v.ownBlock ≠ some g := fun e => own_ne_ h.row h.cells (by decide) e.symm
  have hI : Lib.IsBuilderF 64 5 lo g (Lib.byteCells (X.map UInt8.ofNat)) w := Lib.IsBuilderF.of (h.ptr.imp (fun (e : p = .pointer none) => ⟨h.lo, v, by rw [← e]; exact h.cells, hrow, hne⟩) (fun (e : p = .pointer (some ⟨g, 0, none⟩)) => ⟨h.lo, v, by rw [← e]; exact h.cells, hrow, hne⟩))
  refine (Try.Builder_String_any_k lo g (X.map UInt8.ofNat) w hI (by have := h.lo; have := h.cells.lt; omega)).mono ?_
  rintro e w' ⟨rfl, -, hb, -⟩
  exact ⟨by rw [txt_mk], hb⟩
set_option maxRecDepth 100000 in
set_option maxHeartbeats 4000000 in
theorem print_any (A : Option Addr) (n c : Nat) (Ls : List StT) (w : World) (h : StRd w A n c Ls) (hn : n ≤ 2048) :
    Calls Try.prog 15 #[.slice A n c] w (GivesPr w (Ls.map sdT)) := by
  have H := Lib.hid h
  have Hl := Lib.hid (h.row.rlen stC_len (by decide))
  obtain ⟨X, gX⟩ : ∃ z, Ls.map sdT = z := ⟨_, rfl⟩
  have HXl : RowKit.Hid (X.length = n) := Lib.hid (by rw [← gX, List.length_map]; exact Hl.out)
  have HXat : RowKit.Hid (∀ (k : Nat) (x : StT), Ls[k]? = some x → X[k]? = some (sdT x)) := Lib.hid (fun k x hx => by rw [← gX, List.getElem?_map, hx]; rfl)
  rw [gX]
  have hn48 : decide ((2048 : Int) < (n : Int)) = false := decide_eq_false (by omega)
  have hn48b : decide (2048 < n) = false := decide_eq_false (by omega)
  clear h gX
  go_enter Try.func15, Try.ntmps15
  go_upto_region 5 with fail
  have hW : Whole (w.alloc (.cells #[.pointer none, .slice none 0 0] 64)) w.heap.size 64 [.pointer none, .slice none 0 0] := Whole.new_ _ _ [_, _]
  have hB : Below w.heap.size w (w.alloc (.cells #[.pointer none, .slice none 0 0] 64)) := below1 _ _
  obtain ⟨W0, gW0⟩ : ∃ z, w.alloc (.cells #[.pointer none, .slice none 0 0] 64) = z := ⟨_, rfl⟩
  obtain ⟨g, gg⟩ : ∃ z, w.heap.size = z := ⟨_, rfl⟩
  rw [gW0] at hW hB ⊢
  rw [gg] at hW ⊢
  have HG : RowKit.Hid (w.heap.size = g) := Lib.hid gg
  have HD0 : RowKit.Hid (Bld g W0 g (.pointer none) (.slice none 0 0) (prB (X.take 0))) := Lib.hid ⟨hW, .inl rfl, World.ownsRow_nil _ _ _ _, Nat.le_refl _⟩
  have HB0 : RowKit.Hid (Below w.heap.size w W0) := Lib.hid hB
  clear hW hB gW0 gg
  go_loopw [16] (fun i wr => ∃ (k : Nat) (p v : Value), k ≤ n ∧ i = .int .i64 (k : Int) ∧ RowKit.Hid (Bld g wr g p v (prB (X.take k))) ∧ RowKit.Hid (prE (X.take k) = 0) ∧ RowKit.Hid (Below w.heap.size w wr)) (fun i _ => n - (intOf i).toNat)
  case atStart => exact ⟨0, _, _, Nat.zero_le _, rfl, HD0, Lib.hid rfl, HB0⟩
  case round =>
    clear HD0 HB0
    obtain ⟨k, p, v, hk, rfl, HD, HE, HB⟩ := hrel
    obtain ⟨wo, gwo⟩ : ∃ z, wr = z := ⟨_, rfl⟩
    rw [gwo] at HD HB ⊢
    clear gwo
    by_cases hlt : k < n
    · have hltI : (k : Int) < (n : Int) := by omega
      obtain ⟨x, hx⟩ : ∃ x, Ls[k]? = some x := ⟨_, List.getElem?_eq_getElem (by have := Hl.out; omega)⟩
      have hox := (H.out.each x (List.mem_of_getElem? hx)).bl HB.out
      have hX := HXat.out k x hx
      obtain ⟨bb, off, rfl, hbB, hpl⟩ := (H.out.row.bl HB.out).place stC_len (by decide) (by omega)
      have HHo : RowKit.Hid (RdS (wo.alloc (.cells (stC x).toArray 30)) (wo.alloc (.cells (stC x).toArray 30)).heap.size 20 x.2.1 x.2.2.1 x.2.2.2.1 (rowsV opCells x.2.2.2.2)) := Lib.hid (hox.ops.al _)
      have HPu := Lib.hid (put23_any x (wo.alloc (.cells (stC x).toArray 30)) HHo.out hox.few)
      obtain ⟨⟨k1, k2, k3, k4⟩, Ax, nx, cx, Lx⟩ := x
      have l0 := hpl k _ hx 0 _ rfl
      have l1 := hpl k _ hx 1 _ rfl
      have l2 := hpl k _ hx 2 _ rfl
      have l3 := hpl k _ hx 3 _ rfl
      have l4 := hpl k _ hx 4 _ rfl
      simp only [Addr.add_lit, Nat.add_zero] at l0 l1 l2 l3 l4
      have HX := Lib.hid hX
      have HDa := Lib.hid (HD.out.bl (below1 wo (.cells #[.int .i64 k1, .int .i64 k2, .int .i64 k3, .int .i64 k4, .slice Ax nx cx] 30)))
      have HBa := Lib.hid (bel_al HB.out (.cells #[.int .i64 k1, .int .i64 k2, .int .i64 k3, .int .i64 k4, .slice Ax nx cx] 30))
      obtain ⟨sx, gsx⟩ : ∃ z, sdT ((k1, k2, k3, k4), Ax, nx, cx, Lx) = z := ⟨_, rfl⟩
      rw [gsx] at HX HPu
      clear hx hox hX hpl hbB HD HB HHo gsx
      go_wp2_with fail
      refine (HPu.out).mono ?_
      rintro e w3 ⟨Ap, cp, rfl, hop, hb3⟩
      have HDb := Lib.hid (HDa.out.bl hb3)
      have HBb := Lib.hid (bel_bl HBa.out hb3)
      have hlow := HDa.out.row.lt
      have hgl := HDa.out.cells.lt
      have HNo0 : RowKit.Hid (NoBl g v Ap (sdP sx).length) := Lib.hid (fun a ha h0 => by
        have h1 := (own_lt hop ha).1
        refine ⟨fun e => ?_, fun e => ?_⟩
        · rw [e] at h1; exact absurd hgl (Nat.not_lt.2 h1)
        · exact absurd (hlow a.block e.symm).2 (Nat.not_lt.2 h1))
      have HRb := Lib.hid (own_rds hop)
      clear hop hb3 HDa HBa HPu l0 l1 l2 l3 l4 hlow hgl
      by_cases he : sdE sx = 0
      · have hpx := sdP_ok he
        rw [hpx, he]
        rw [hpx] at HNo0 HRb
        have Hps := Lib.hid (sdB_lt sx)
        have HNx := Lib.hid (prB_next HX.out)
        have HEx := Lib.hid (prE_next HX.out HE.out he)
        have Hln := Lib.hid (lnB_len he)
        have Hpr := Lib.hid (prB_len _ HE.out)
        obtain ⟨P, gP⟩ : ∃ z, sdB sx = z := ⟨_, rfl⟩
        have HLn : RowKit.Hid (lnB sx = dgs P ++ [10]) := Lib.hid (by unfold lnB; rw [gP])
        have hP171 : P.length ≤ 171 := by rw [← gP]; exact (sdB_len he).2
        rw [gP] at HNo0 HRb Hps ⊢
        obtain ⟨m, gm⟩ : ∃ z, P.length = z := ⟨_, rfl⟩
        have Hpl : RowKit.Hid (P.length = m) := Lib.hid gm
        rw [gm] at HNo0 HRb hP171 ⊢
        obtain ⟨Y, gY⟩ : ∃ z, prB (X.take k) = z := ⟨_, rfl⟩
        rw [gY] at HDb HNx Hpr
        have HY7 : RowKit.Hid (Y.length ≤ 343 * 2048) := Lib.hid (by
          have h1 := Hpr.out
          have h2 : (X.take k).length ≤ 2048 := by rw [List.length_take]; omega
          omega)
        clear hpx gP gm gY he Hln Hpr HE
        go_upto_region 11 with fail
        obtain ⟨wi, gwi⟩ : ∃ z, w3 = z := ⟨_, rfl⟩
        rw [gwi] at HDb HBb HRb ⊢
        clear gwi
        have HDc : RowKit.Hid (Bld g wi g p v (Y ++ dgs (P.take 0))) := Lib.hid (by rw [show dgs (P.take 0) = [] from rfl, List.append_nil]; exact HDb.out)
        clear HDb
        go_loopw [30] (fun i wr => ∃ (q : Nat) (p v : Value), q ≤ m ∧ i = .int .i64 (q : Int) ∧ RowKit.Hid (Bld g wr g p v (Y ++ dgs (P.take q))) ∧ RowKit.Hid (RdS wr wr.heap.size 1 Ap m cp (rowsV f8 P)) ∧ RowKit.Hid (NoBl g v Ap m) ∧ RowKit.Hid (Below w.heap.size w wr)) (fun i _ => m - (intOf i).toNat)
        case atStart => exact ⟨0, p, v, Nat.zero_le _, rfl, HDc, HRb, HNo0, HBb⟩
        case round =>
          clear HDc HRb HNo0 HBb
          obtain ⟨q, p, v, hq, rfl, HD, HR, HNo, HB⟩ := hrel
          obtain ⟨wp, gwp⟩ : ∃ z, wr = z := ⟨_, rfl⟩
          rw [gwp] at HD HR HB ⊢
          clear gwp
          by_cases hql : q < m
          · have hqI : (q : Int) < (m : Int) := by omega
            obtain ⟨b, hx⟩ : ∃ b, P[q]? = some b := ⟨_, List.getElem?_eq_getElem (by have := Hpl.out; omega)⟩
            have hb8 : b < 256 := Hps.out b (List.mem_of_getElem? hx)
            have hN := dgs_next hx
            have hd1 : b / 16 < 16 := by omega
            have hd2 : b % 16 < 16 := by omega
            have hi1 := fun W => idx_hex .u8 (b / 16) hd1 W
            have hi2 := fun W => idx_hex .u8 (b % 16) hd2 W
            obtain ⟨h1, gh1⟩ : ∃ z, hxd (b / 16) = z := ⟨_, rfl⟩
            obtain ⟨h2, gh2⟩ : ∃ z, hxd (b % 16) = z := ⟨_, rfl⟩
            rw [gh1] at hN hi1
            rw [gh2] at hN hi2
            obtain ⟨d1, gd1⟩ : ∃ z, b / 16 = z := ⟨_, rfl⟩
            obtain ⟨d2, gd2⟩ : ∃ z, b % 16 = z := ⟨_, rfl⟩
            rw [gd1] at hi1
            rw [gd2] at hi2
            have q1b : (b : Int) / 16 = (d1 : Int) := by omega
            have q2 := and_15 b hb8
            rw [gd2] at q2
            obtain ⟨bb2, off2, hA, hbB, hpl⟩ := byte_at HR.out (by omega)
            subst hA
            have l0 := hpl q b hx
            have HN := Lib.hid hN
            have Hi2 := Lib.hid hi2
            have hYl : (Y ++ dgs (P.take q)).length ≤ 100000000 := by
              rw [List.length_append, dgs_len, List.length_take]
              have := HY7.out
              omega
            have hYl2 : ((Y ++ dgs (P.take q)) ++ [h1]).length ≤ 100000000 := by
              rw [List.length_append, List.length_append, dgs_len, List.length_take]
              have := HY7.out
              simp only [List.length_singleton]
              omega
            clear hpl hbB hN gh1 gh2 gd1 gd2 hd1 hd2 hx hb8 hi2
            go_wp2_with fail
            refine (wb_any g g p v _ h1 wp HD.out hYl).mono ?_
            rintro e w4 ⟨v4, rfl, hd4, hk4, ho4⟩
            have HD4 := Lib.hid hd4
            have HR4 := Lib.hid (HNo.out.keep HR.out hk4)
            have HNo4 := Lib.hid (HNo.out.on (w' := w4) HR.out ho4)
            have HB4 := Lib.hid (HD.out.below HB.out hk4 (Nat.le_of_eq HG.out))
            clear hd4 hk4 ho4 HD HR HNo HB l0 hi1 q1b
            have hi2 := Hi2.out
            go_wp2_with fail
            refine (wb_any g g _ v4 _ h2 w4 HD4.out hYl2).mono ?_
            rintro e w5 ⟨v5, rfl, hd5, hk5, ho5⟩
            have HD5 := Lib.hid hd5
            have HR5 := Lib.hid (HNo4.out.keep HR4.out hk5)
            have HNo5 := Lib.hid (HNo4.out.on (w' := w5) HR4.out ho5)
            have HB5 := Lib.hid (HD4.out.below HB4.out hk5 (Nat.le_of_eq HG.out))
            clear hd5 hk5 ho5 HD4 HR4 HNo4 HB4 hi2 q2
            go_wp2
            go_roundw
            case rel => exact ⟨q + 1, _, v5, by omega, by go_num, Lib.hid (by rw [HN.out]; have := HD5.out; simpa [List.append_assoc] using this), HR5, HNo5, HB5⟩
            case measure => simp [intOf]; omega
          · obtain rfl : m = q := by omega
            have hfull : P.take m = P := List.take_of_length_le (by rw [Hpl.out]; exact Nat.le_refl _)
            have hYl : (Y ++ dgs (P.take m)).length ≤ 100000000 := by
              rw [List.length_append, dgs_len, List.length_take]
              have := HY7.out
              omega
            have HF := Lib.hid hfull
            clear hfull
            go_wp2_with fail
            refine (wb_any g g p v _ 10 wp HD.out hYl).mono ?_
            rintro e w4 ⟨v4, rfl, hd4, hk4, -⟩
            have HB4 := Lib.hid (HD.out.below HB.out hk4 (Nat.le_of_eq HG.out))
            have HD4 : RowKit.Hid (Bld g w4 g (.pointer (some ⟨g, 0, none⟩)) v4 (prB (X.take (k + 1)))) := Lib.hid (by
              rw [HNx.out, HLn.out, ← List.append_assoc]
              rw [HF.out] at hd4
              exact hd4)
            clear hd4 hk4 HD HR HNo HB HNx HF
            go_wp2
            go_roundw
            case rel => exact ⟨k + 1, _, v4, by omega, by go_num, HD4, HEx, HB4⟩
            case measure => simp [intOf]; omega
      · have hbad := prE_bad HX.out HE.out he
        have HP : RowKit.Hid (GivesPr w X (.returned (.tuple #[.string { data := #[] }, .int .i64 (sdE sx)])) w3) := Lib.hid (by
          unfold GivesPr prS
          rw [hbad, if_neg he]
          exact ⟨rfl, HBb.out⟩)
        obtain ⟨e9, ge9⟩ : ∃ z, sdE sx = z := ⟨_, rfl⟩
        rw [ge9] at he HP ⊢
        have hq9 : (e9 != 0) = true := bne_iff_ne.2 he
        clear hbad ge9 he HDb HRb HNo0 HE
        go_wp2
        refine bodyPost_ret (v := .tuple #[.string { data := #[] }, .int .i64 e9]) (by simp [results, Try.results15, go_sem]) rfl ?_
        exact HP.out
    · obtain rfl : n = k := by omega
      have hfull : X.take n = X := List.take_of_length_le (by rw [HXl.out]; exact Nat.le_refl _)
      have hd := HD.out
      have he := HE.out
      rw [hfull] at hd he
      have HP : RowKit.Hid (∀ w4, Below g wo w4 → GivesPr w X (.returned (.tuple #[.string (txt (prB X)), .int .i64 0])) w4) := Lib.hid (fun w4 hb => by
        unfold GivesPr prS
        rw [he, if_pos rfl]
        exact ⟨rfl, HB.out.trans (by rw [HG.out]; exact hb)⟩)
      have HDz := Lib.hid hd
      clear hfull hd he HD HE
      go_wp2_with fail
      refine (bstr_any g g p v (prB X) wo HDz.out (prB_lt X)).mono ?_
      rintro e w4 ⟨rfl, hb4⟩
      have HQ := Lib.hid (HP.out w4 hb4)
      clear hb4 HP HDz
      go_wp2
      refine bodyPost_ret (v := .tuple #[.string (txt (prB X)), .int .i64 0]) (by simp [results, Try.results15, go_sem]) rfl ?_
      exact HQ.out
end Go.Proofs.Ytinfbaflkjghhaa
/- The document's Print; the document's example. -/
namespace Go.Proofs.Ytinfbaflkjghhaa
open Go.RowKit
set_option maxRecDepth 100000 in
set_option maxHeartbeats 4000000 in
theorem rprint_any (A : Option Addr) (n c : Nat) (Ls : List StT) (w : World) (h : StRd w A n c Ls) (hn : n ≤ 2048) :
    Calls Try.prog 16 #[.slice A n c] w (GivesPr w (Ls.map sdT)) := by
  have H := Lib.hid h
  have Hl := Lib.hid (h.row.rlen stC_len (by decide))
  obtain ⟨X, gX⟩ : ∃ z, Ls.map sdT = z := ⟨_, rfl⟩
  have HXl : RowKit.Hid (X.length = n) := Lib.hid (by rw [← gX, List.length_map]; exact Hl.out)
  have HXat : RowKit.Hid (∀ (k : Nat) (x : StT), Ls[k]? = some x → X[k]? = some (sdT x)) := Lib.hid (fun k x hx => by rw [← gX, List.getElem?_map, hx]; rfl)
  rw [gX]
  have hn48 : decide ((2048 : Int) < (n : Int)) = false := decide_eq_false (by omega)
  have hn48b : decide (2048 < n) = false := decide_eq_false (by omega)
  have HB0 : RowKit.Hid (Below w.heap.size w w) := Lib.hid (Below.refl _ _)
  clear h gX
  go_enter Try.func16, Try.ntmps16
  go_upto_region 5 with fail
  have HT0 : RowKit.Hid (({ data := #[] } : ByteArray) = txt (prB (X.take 0))) := Lib.hid rfl
  go_loopw [4, 5] (fun s i wr => ∃ (k : Nat) (t : ByteArray), k ≤ n ∧ s = .string t ∧ i = .int .i64 (k : Int) ∧ RowKit.Hid (t = txt (prB (X.take k))) ∧ RowKit.Hid (prE (X.take k) = 0) ∧ RowKit.Hid (Below w.heap.size w wr)) (fun _ i _ => n - (intOf i).toNat)
  case atStart => exact ⟨0, _, Nat.zero_le _, rfl, rfl, HT0, Lib.hid rfl, HB0⟩
  case round =>
    clear HT0 HB0
    obtain ⟨k, t, hk, rfl, rfl, HT, HE, HB⟩ := hrel
    obtain ⟨wo, gwo⟩ : ∃ z, wr = z := ⟨_, rfl⟩
    rw [gwo] at HB ⊢
    clear gwo
    by_cases hlt : k < n
    · have hltI : (k : Int) < (n : Int) := by omega
      obtain ⟨x, hx⟩ : ∃ x, Ls[k]? = some x := ⟨_, List.getElem?_eq_getElem (by have := Hl.out; omega)⟩
      have hox := (H.out.each x (List.mem_of_getElem? hx)).bl HB.out
      have hX := HXat.out k x hx
      obtain ⟨bb, off, rfl, hbB, hpl⟩ := (H.out.row.bl HB.out).place stC_len (by decide) (by omega)
      have HPu := Lib.hid (rput23_any x wo hox.ops hox.few hox.txt)
      obtain ⟨⟨k1, k2, k3, k4⟩, Ax, nx, cx, Lx⟩ := x
      have l0 := hpl k _ hx 0 _ rfl
      have l1 := hpl k _ hx 1 _ rfl
      have l2 := hpl k _ hx 2 _ rfl
      have l3 := hpl k _ hx 3 _ rfl
      have l4 := hpl k _ hx 4 _ rfl
      simp only [Addr.add_lit, Nat.add_zero] at l0 l1 l2 l3 l4
      have HX := Lib.hid hX
      obtain ⟨sx, gsx⟩ : ∃ z, sdT ((k1, k2, k3, k4), Ax, nx, cx, Lx) = z := ⟨_, rfl⟩
      rw [gsx] at HX HPu
      clear hx hox hX hpl hbB gsx
      go_wp2_with fail
      refine (HPu.out).mono ?_
      rintro e w3 ⟨Ap, cp, rfl, hop, hb3⟩
      have HBb := Lib.hid (bel_bl HB.out hb3)
      have HRb := Lib.hid (own_rds hop)
      clear hop hb3 HPu l0 l1 l2 l3 l4 HB
      by_cases he : sdE sx = 0
      · have hpx := sdP_ok he
        rw [hpx, he]
        rw [hpx] at HRb
        have Hps := Lib.hid (sdB_lt sx)
        have HNx := Lib.hid (prB_next HX.out)
        have HEx := Lib.hid (prE_next HX.out HE.out he)
        have hts : t.size ≤ 343 * 2048 := by
          rw [HT.out, txt_size]
          have h1 := prB_len _ HE.out
          have h2 : (X.take k).length ≤ 2048 := by rw [List.length_take]; omega
          omega
        have hP171 := (sdB_len he).2
        obtain ⟨P, gP⟩ : ∃ z, sdB sx = z := ⟨_, rfl⟩
        have HLn : RowKit.Hid (lnB sx = dgs P ++ [10]) := Lib.hid (by unfold lnB; rw [gP])
        rw [gP] at HRb Hps hP171 ⊢
        obtain ⟨m, gm⟩ : ∃ z, P.length = z := ⟨_, rfl⟩
        have Hpl : RowKit.Hid (P.length = m) := Lib.hid gm
        rw [gm] at HRb hP171 ⊢
        have hml : m ≤ 100000 := by omega
        clear hpx gP gm he HE
        go_wp2_with fail
        refine (digs_any Ap m cp P w3 Hpl.out HRb.out hml Hps.out).mono ?_
        rintro e w4 ⟨rfl, hb4⟩
        have HB4 := Lib.hid (bel_bl HBb.out hb4)
        have HT4 : RowKit.Hid ((t ++ txt (dgs P)) ++ { data := #[10] } = txt (prB (X.take (k + 1)))) := Lib.hid (by
          rw [HNx.out, HLn.out, HT.out, show (({ data := #[10] } : ByteArray)) = txt [10] from rfl, txt_app, txt_app, List.append_assoc])
        have hus : (txt (dgs P)).size ≤ 400 := by rw [txt_size, dgs_len, Hpl.out]; omega
        obtain ⟨u, gu⟩ : ∃ z, txt (dgs P) = z := ⟨_, rfl⟩
        rw [gu] at HT4 hus ⊢
        have hc1 : ¬ (9223372036854775807 : Int) < ((t.size + u.size : Nat) : Int) := by omega
        have hd1 : ¬ 9223372036854775807 < t.size + u.size := by omega
        have he1 : ¬ (9223372036854775807 : Int) < (((t.size : Nat) : Int) + ((u.size : Nat) : Int)) := by omega
        have hc2 : ¬ (9223372036854775807 : Int) < (((t.size + u.size) + 1 : Nat) : Int) := by omega
        have hd2 : ¬ 9223372036854775807 < (t.size + u.size) + 1 := by omega
        have he2 : ¬ (9223372036854775807 : Int) < ((((t.size + u.size) : Nat) : Int) + ((1 : Nat) : Int)) := by omega
        clear hb4 HBb HRb HNx HLn HT gu
        go_wp2
        go_roundw
        case rel => exact ⟨k + 1, _, by omega, rfl, by go_num, HT4, HEx, HB4⟩
        case measure => simp [intOf]; omega
      · have hbad := prE_bad HX.out HE.out he
        have HP : RowKit.Hid (GivesPr w X (.returned (.tuple #[.string { data := #[] }, .int .i64 (sdE sx)])) w3) := Lib.hid (by
          unfold GivesPr prS
          rw [hbad, if_neg he]
          exact ⟨rfl, HBb.out⟩)
        obtain ⟨e9, ge9⟩ : ∃ z, sdE sx = z := ⟨_, rfl⟩
        rw [ge9] at he HP ⊢
        have hq9 : (e9 != 0) = true := bne_iff_ne.2 he
        clear hbad ge9 he HRb HE HT
        go_wp2
        refine bodyPost_ret (v := .tuple #[.string { data := #[] }, .int .i64 e9]) (by simp [results, Try.results16, go_sem]) rfl ?_
        exact HP.out
    · obtain rfl : n = k := by omega
      have hfull : X.take n = X := List.take_of_length_le (by rw [HXl.out]; exact Nat.le_refl _)
      have ht := HT.out
      have he := HE.out
      rw [hfull] at ht he
      have HP : RowKit.Hid (GivesPr w X (.returned (.tuple #[.string t, .int .i64 0])) wo) := Lib.hid (by
        unfold GivesPr prS
        rw [he, if_pos rfl, ht]
        exact ⟨rfl, HB.out⟩)
      clear hfull ht he HT HE
      go_wp2
      refine bodyPost_ret (v := .tuple #[.string t, .int .i64 0]) (by simp [results, Try.results16, go_sem]) rfl ?_
      exact HP.out
def rnd0 : List Nat := [48, 48, 48, 48, 48, 48, 48, 48, 48, 48, 48, 48, 48, 48, 48, 98]
theorem round_any (w : World) : Calls Try.prog 19 #[] w fun e w' => e = .returned (.string (txt (rnd0 ++ List.replicate 48 48))) ∧ Below w.heap.size w w' := by
  have HB0 : RowKit.Hid (Below w.heap.size w w) := Lib.hid (Below.refl _ _)
  go_enter Try.func19, Try.ntmps19
  go_upto_region 3 with fail
  have HT0 : RowKit.Hid (({ data := #[48, 48, 48, 48, 48, 48, 48, 48, 48, 48, 48, 48, 48, 48, 48, 98] } : ByteArray) = txt (rnd0 ++ List.replicate 0 48)) := Lib.hid rfl
  go_loopw [1, 2] (fun s i wr => ∃ (k : Nat) (t : ByteArray), k ≤ 48 ∧ s = .string t ∧ i = .int .i64 (k : Int) ∧ RowKit.Hid (t = txt (rnd0 ++ List.replicate k 48)) ∧ RowKit.Hid (Below w.heap.size w wr)) (fun _ i _ => 48 - (intOf i).toNat)
  case atStart => exact ⟨0, _, Nat.zero_le _, rfl, rfl, HT0, HB0⟩
  case round =>
    clear HT0 HB0
    obtain ⟨k, t, hk, rfl, rfl, HT, HB⟩ := hrel
    by_cases hlt : k < 48
    · have hltI : (k : Int) < 48 := by omega
      have HT4 : RowKit.Hid (t ++ { data := #[48] } = txt (rnd0 ++ List.replicate (k + 1) 48)) := Lib.hid (by
        rw [HT.out, show (({ data := #[48] } : ByteArray)) = txt [48] from rfl, txt_app, List.append_assoc, List.replicate_succ'])
      have hts : t.size ≤ 100 := by rw [HT.out, txt_size]; simp [rnd0]; omega
      have hc1 : ¬ (9223372036854775807 : Int) < ((t.size + 1 : Nat) : Int) := by omega
      have hd1 : ¬ 9223372036854775807 < t.size + 1 := by omega
      have he1 : ¬ (9223372036854775807 : Int) < (((t.size : Nat) : Int) + ((1 : Nat) : Int)) := by omega
      clear HT
      go_wp2
      go_roundw
      case rel => exact ⟨k + 1, _, by omega, rfl, by go_num, HT4, HB⟩
      case measure => simp [intOf]; omega
    · obtain rfl : 48 = k := by omega
      go_wp2
      go_ret
      exact ⟨by rw [← HT.out]; rfl, HB.out⟩
theorem shown23_any (w : World) : Calls Try.prog 8 #[] w fun e w' => e = .returned (.bool true) ∧ Below w.heap.size w w' := by
  have hv : prS [((11, 0, 0, 0), [])] = rnd0 ++ List.replicate 48 48 ++ [10] := by decide +kernel
  have he : prE [((11, 0, 0, 0), [])] = 0 := rfl
  have HV := Lib.hid hv
  have hW : Whole (w.alloc (.cells #[.int .i64 11, .int .i64 0, .int .i64 0, .int .i64 0, .slice none 0 0] 30)) w.heap.size 30 [.int .i64 11, .int .i64 0, .int .i64 0, .int .i64 0, .slice none 0 0] := Whole.new_ _ _ [_, _, _, _, _]
  have hS : StRd (w.alloc (.cells #[.int .i64 11, .int .i64 0, .int .i64 0, .int .i64 0, .slice none 0 0] 30)) (some ⟨w.heap.size, 0, none⟩) 1 1 [((11, 0, 0, 0), (none, 0, 0, []))] :=
    ⟨by rw [rowsS1]; exact RdS.of_whole8 hW rfl, fun s hs => by
      obtain rfl := List.mem_singleton.1 hs
      exact ⟨rds_nil _ _ _, by decide, fun o ho => (by cases ho), by unfold In4 In64; simp⟩⟩
  have HP := Lib.hid (print_any (some ⟨w.heap.size, 0, none⟩) 1 1 [((11, 0, 0, 0), (none, 0, 0, []))] _ hS (by decide))
  have HB0 : RowKit.Hid (Below w.heap.size w (w.alloc (.cells #[.int .i64 11, .int .i64 0, .int .i64 0, .int .i64 0, .slice none 0 0] 30))) := Lib.hid (below1 _ _)
  clear hv hW hS he
  go_enter Try.func8, Try.ntmps8
  go_wp2_with fail
  refine HP.out.mono ?_
  rintro e w1 ⟨rfl, hb1⟩
  rw [show ([((11, 0, 0, 0), (none, 0, 0, []))] : List StT).map sdT = [((11, 0, 0, 0), [])] from rfl, HV.out, show prE [((11, 0, 0, 0), [])] = 0 from rfl]
  have HB1 := Lib.hid (bel_bl HB0.out hb1)
  clear hb1 HP HB0
  obtain ⟨t1, gt1⟩ : ∃ z, txt (rnd0 ++ List.replicate 48 48 ++ [10]) = z := ⟨_, rfl⟩
  rw [gt1]
  have G1 := Lib.hid gt1
  clear gt1
  go_wp2_with fail
  refine (round_any w1).mono ?_
  rintro e w2 ⟨rfl, hb2⟩
  have HB2 := Lib.hid (bel_bl HB1.out hb2)
  have HT : RowKit.Hid (txt (rnd0 ++ List.replicate 48 48) ++ { data := #[10] } = t1) := Lib.hid (by
    rw [show (({ data := #[10] } : ByteArray)) = txt [10] from rfl, txt_app]
    exact G1.out)
  obtain ⟨t2, gt2⟩ : ∃ z, txt (rnd0 ++ List.replicate 48 48) = z := ⟨_, rfl⟩
  rw [gt2] at HT ⊢
  have ht := HT.out
  have hts : t2.size ≤ 100 := by rw [← gt2, txt_size]; decide
  have hc1 : ¬ (9223372036854775807 : Int) < ((t2.size + 1 : Nat) : Int) := by omega
  have hd1 : ¬ 9223372036854775807 < t2.size + 1 := by omega
  have he1 : ¬ (9223372036854775807 : Int) < (((t2.size : Nat) : Int) + ((1 : Nat) : Int)) := by omega
  clear gt2 hb2 HB1 G1
  go_wp2
  go_ret
  exact ⟨rfl, HB2.out⟩
end Go.Proofs.Ytinfbaflkjghhaa
/- OpcodeTakes' walk. -/
namespace Go.Proofs.Ytinfbaflkjghhaa
open Go.RowKit
theorem whV_len {B : List Nat} (hb : ∀ b ∈ B, b < 256) : (whV B).length ≤ 255 := by
  have h1 := byte_lt hb
  unfold whV
  split
  · unfold rdV
    rw [edV_len]
    omega
  · exact Nat.zero_le _
end Go.Proofs.Ytinfbaflkjghhaa
