/- Rows of rows of bytes; rows of ints compared. -/
import Derived.Test.YthfngmlnmpbcpaaBy
import Derived.Test.YthfngmlnmpbcpaaRegT
import Derived.Laws.OwnMore
namespace Go.Proofs.Ythfngmlnmpbcpaa
open Go.RowKit
set_option linter.unusedSimpArgs false
set_option linter.unusedVariables false

/-- A slice of bytes as a cell: where, how long, how much room. -/
abbrev Sl := Option Addr × Nat × Nat
def slc (e : Sl) : List Value := [.slice e.1 e.2.1 e.2.2]
theorem slc_len (e : Sl) : (slc e).length = 1 := rfl
theorem slc_one (e : Sl) : ∀ u ∈ slc e, u.oneCell' = true := by simp [slc, Value.oneCell']
theorem slc_all (es : List Sl) : ∀ u ∈ rowsV slc es, u.oneCell' = true := rowsV_one slc slc_one es
theorem info_sl : (Try.prog.info? 32).map (fun i => (i.zero, i.size, i.bytes)) = some (some (.slice none 0 0), 1, 24) := by kernel_rfl
theorem rowsV_get1 (es : List Sl) (i : Nat) : (rowsV slc es)[i]? = es[i]?.map (fun e => Value.slice e.1 e.2.1 e.2.2) := by
  induction es generalizing i with
  | nil => rfl
  | cons e es ih => cases i <;> simp [rowsV, slc, ih]
theorem own_kept {S : Nat → Prop} {w w' : World} {B n : Nat} {e : TypeId} {size : Nat} {v : Value} {xs : List Value} (h : w.ownsRow B e size v n xs) (hk : Kept S w w') (hne : ∀ b, v.ownBlock = some b → ¬ S b) : w'.ownsRow B e size v n xs := by
  refine ⟨h.1, ?_⟩
  rcases h.2 with h3 | ⟨b, cap, cur, e1, e2, e3, e4⟩
  · exact .inl h3
  · have hlt : b < w.heap.size := (Array.getElem?_eq_some_iff.1 e3).1
    exact .inr ⟨b, cap, cur, e1, e2, (hk.block b hlt (hne b (by rw [e1]; rfl))).trans e3, e4⟩
theorem rowsV_atS {es : List Sl} {i : Nat} {e : Sl} (h : es[i]? = some e) : (rowsV slc es)[i]? = some (.slice e.1 e.2.1 e.2.2) := by
  have := rowsV_get slc slc_len es i e h 0 _ rfl
  simpa using this
theorem info_int : (Try.prog.info? 3).map (fun i => (i.zero, i.size, i.bytes)) = some (some (.int .i64 0), 1, 8) := by kernel_rfl
def intC (x : Int) : List Value := [.int .i64 x]
theorem intC_len (x : Int) : (intC x).length = 1 := rfl
set_option maxRecDepth 100000 in
set_option maxHeartbeats 1000000 in
theorem ints_eq (A1 A2 : Option Addr) (n c1 c2 : Nat) (xs : List Int) (w : World) (h1 : RdS w w.heap.size 1 A1 n c1 (rowsV intC xs)) (h2 : RdS w w.heap.size 1 A2 n c2 (rowsV intC xs)) (hn : n ≤ 200000) :
    Calls Try.prog 18 #[.slice A1 n c1, .slice A2 n c2] w fun e w' => e = .returned (.bool true) ∧ Below w.heap.size w w' := by
  have hl := h1.rlen intC_len (by decide)
  have H1 := Lib.hid h1
  have H2 := Lib.hid h2
  have Hl := Lib.hid hl
  clear h1 h2 hl
  go_enter Try.func18, Try.ntmps18
  go_wp2
  go_loopw [5] (fun si wr => ∃ j : Nat, j ≤ n ∧ si = .int .i64 j ∧ RowKit.Hid (Below w.heap.size w wr)) (fun si _ => n - (intOf si).toNat)
  case atStart => exact ⟨0, Nat.zero_le _, rfl, Lib.hid (Below.refl _ _)⟩
  case round =>
    obtain ⟨j, hj, rfl, HB⟩ := hrel
    by_cases hjn : j < n
    · obtain ⟨b1, o1, rfl, hb1, hp1⟩ := H1.out.place intC_len (by decide) (by omega)
      obtain ⟨b2, o2, rfl, hb2, hp2⟩ := H2.out.place intC_len (by decide) (by omega)
      obtain ⟨x, hx⟩ : ∃ x, xs[j]? = some x := ⟨_, List.getElem?_eq_getElem (by have := Hl.out; omega)⟩
      have k1 := hp1 j x hx 0 (.int .i64 x) rfl
      have k2 := hp2 j x hx 0 (.int .i64 x) rfl
      rw [Addr.add_lit] at k1 k2
      simp only [Nat.add_zero, Nat.mul_one] at k1 k2
      have k1' := (HB.out.cell (p := ⟨b1, o1 + j, none⟩) hb1).trans k1
      have k2' := (HB.out.cell (p := ⟨b2, o2 + j, none⟩) hb2).trans k2
      have ld1 : ∀ w', Kept Nil_ wr.drew w' → w'.cell? ⟨b1, o1 + j, none⟩ = some (.int .i64 x) := fun w' hk => hk.nil_cell (show wr.drew.cell? ⟨b1, o1 + j, none⟩ = _ from k1')
      have ld2 : ∀ w', Kept Nil_ wr.drew w' → w'.cell? ⟨b2, o2 + j, none⟩ = some (.int .i64 x) := fun w' hk => hk.nil_cell (show wr.drew.cell? ⟨b2, o2 + j, none⟩ = _ from k2')
      clear hx hp1 hp2 k1 k2 k1' k2' hb1 hb2
      go_upto_region 6 with fail
      refine wp_region_reg (Nil_) (by kernel_rfl) ?_
      apply wpR_next 0 (some 17)
      · simp only [List.getElem?_toArray, List.getElem?_cons_succ, List.getElem?_cons_zero]; exact rfl
      · rfl
      · kernel_rfl
      · kernel_rfl
      · kernel_rfl
      · exact fun _ _ _ _ h => h
      apply Exists.intro
      apply And.intro
      · apply yr_run; rfl; intro w' hw'; go_simp; (try with_reducible rfl)
      simp only [Act.put, List.setIfInBounds_toArray, List.set_cons_zero, List.set_cons_succ]
      apply wpR_next 1 (some 18)
      · simp only [List.getElem?_toArray, List.getElem?_cons_succ, List.getElem?_cons_zero]; exact rfl
      · rfl
      · kernel_rfl
      · kernel_rfl
      · kernel_rfl
      · exact fun _ _ _ _ h => h
      apply Exists.intro
      apply And.intro
      · apply yr_run; rfl; intro w' hw'; go_simp; (try with_reducible rfl)
      simp only [Act.put, List.setIfInBounds_toArray, List.set_cons_zero, List.set_cons_succ]
      apply wpR_next 2 (some 19)
      · simp only [List.getElem?_toArray, List.getElem?_cons_succ, List.getElem?_cons_zero]; exact rfl
      · rfl
      · kernel_rfl
      · kernel_rfl
      · kernel_rfl
      · exact fun _ _ _ _ h => h
      apply Exists.intro
      apply And.intro
      · apply yr_run; rfl; intro w' hw'; go_simp; (try with_reducible rfl)
      simp only [Act.put, List.setIfInBounds_toArray, List.set_cons_zero, List.set_cons_succ]
      apply wpR_next 3 (some 20)
      · simp only [List.getElem?_toArray, List.getElem?_cons_succ, List.getElem?_cons_zero]; exact rfl
      · rfl
      · kernel_rfl
      · kernel_rfl
      · kernel_rfl
      · exact fun _ _ _ _ h => h
      apply Exists.intro
      apply And.intro
      · apply yr_run; rfl; intro w' hw'; go_simp; (try with_reducible rfl)
      simp only [Act.put, List.setIfInBounds_toArray, List.set_cons_zero, List.set_cons_succ]
      apply wpR_next 4 (some 21)
      · simp only [List.getElem?_toArray, List.getElem?_cons_succ, List.getElem?_cons_zero]; exact rfl
      · rfl
      · kernel_rfl
      · kernel_rfl
      · kernel_rfl
      · exact fun _ _ _ _ h => h
      apply Exists.intro
      apply And.intro
      · apply yr_run; rfl; intro w' hw'; go_simp; (try with_reducible rfl)
      simp only [Act.put, List.setIfInBounds_toArray, List.set_cons_zero, List.set_cons_succ]
      apply wpR_next 5 (some 22)
      · simp only [List.getElem?_toArray, List.getElem?_cons_succ, List.getElem?_cons_zero]; exact rfl
      · rfl
      · kernel_rfl
      · kernel_rfl
      · kernel_rfl
      · exact fun _ _ _ _ h => h
      apply Exists.intro
      apply And.intro
      · apply yr_run; rfl; intro w' hw'; go_simp; (try with_reducible rfl)
      simp only [Act.put, List.setIfInBounds_toArray, List.set_cons_zero, List.set_cons_succ]
      apply wpR_next 6 (some 23)
      · simp only [List.getElem?_toArray, List.getElem?_cons_succ, List.getElem?_cons_zero]; exact rfl
      · rfl
      · kernel_rfl
      · kernel_rfl
      · kernel_rfl
      · exact fun _ _ _ _ h => h
      apply Exists.intro
      apply And.intro
      · apply yr_run; rfl; intro w' hw'; go_simp; (try with_reducible rfl)
      simp only [Act.put, List.setIfInBounds_toArray, List.set_cons_zero, List.set_cons_succ]
      apply wpR_next 7 (some 24)
      · simp only [List.getElem?_toArray, List.getElem?_cons_succ, List.getElem?_cons_zero]; exact rfl
      · rfl
      · kernel_rfl
      · kernel_rfl
      · kernel_rfl
      · exact fun _ _ _ _ h => h
      apply Exists.intro
      apply And.intro
      · apply yr_run; rfl; intro w' hw'; go_simp; (try with_reducible rfl)
      simp only [Act.put, List.setIfInBounds_toArray, List.set_cons_zero, List.set_cons_succ]
      apply wpR_next 8 (some 25)
      · simp only [List.getElem?_toArray, List.getElem?_cons_succ, List.getElem?_cons_zero]; exact rfl
      · rfl
      · kernel_rfl
      · kernel_rfl
      · kernel_rfl
      · exact fun _ _ _ _ h => h
      apply Exists.intro
      apply And.intro
      · apply yr_run; rfl; intro w' hw'; go_simp; (try with_reducible rfl)
      simp only [Act.put, List.setIfInBounds_toArray, List.set_cons_zero, List.set_cons_succ]
      refine wpR_done (by kernel_rfl) ?_ _
      intro W5 hw5
      have HB5 : RowKit.Hid (Below w.heap.size w W5) := Lib.hid (bel_bl HB.out (Ext.trans ((Below.refl _ _).drew) hw5))
      clear hw5 ld1 ld2 HB
      go_wp2
      go_roundw
      case rel => exact ⟨j + 1, by omega, by go_num, HB5⟩
      case measure => simp [intOf]; omega
    · obtain rfl : j = n := by omega
      go_wp2
      go_ret
      exact ⟨rfl, HB.out⟩
theorem RdS.of_marked {cs : Array Value} {t : TypeId} (w : World) (fr : Nat × Nat) {n size : Nat} (hn : cs.toList.length = n * size) : RdS (w.alloc (.cells cs t fr)) (w.alloc (.cells cs t fr)).heap.size size (some ⟨w.heap.size, 0, none⟩) n n cs.toList :=
  ⟨hn, fun e => (by cases e), Nat.le_refl _, fun a ha _ => (by obtain rfl := Option.some.inj ha; simp), fun a ha => (by obtain rfl := Option.some.inj ha; exact World.news_of_block (fr := fr) (heap_alloc_new w _))⟩
end Go.Proofs.Ythfngmlnmpbcpaa
