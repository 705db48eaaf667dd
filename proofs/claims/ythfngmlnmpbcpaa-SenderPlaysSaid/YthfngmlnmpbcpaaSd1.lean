/- A sender in memory; New, pushed, Next. -/
import Derived.Test.YthfngmlnmpbcpaaBy
namespace Go.Proofs.Ythfngmlnmpbcpaa
open Go.RowKit
set_option linter.unusedSimpArgs false
set_option linter.unusedVariables false

/-- A slice of bytes as a cell: where, how long, how much room. -/
abbrev Sl := Option Addr × Nat × Nat
def slc (e : Sl) : List Value := [.slice e.1 e.2.1 e.2.2]
theorem slc_len (e : Sl) : (slc e).length = 1 := rfl
theorem slc_one (e : Sl) : ∀ u ∈ slc e, u.oneCell' = true := by simp [slc, Value.oneCell']
theorem slc_all (es : List Sl) : ∀ u ∈ rowsV slc es, u.oneCell' = true := rowsV_one slc slc_one es
/-- What a sender at block g keeps: the rows Ls, as the slices es in the row (A, c); k: the block of that row, if it may be written to. -/
structure SdIn (B : Nat) (w : World) (g win ack : Nat) (Ls : List (List Nat)) (A : Option Addr) (c : Nat) (es : List Sl) (k : Option Nat) : Prop where
  box : Whole w g 66 [.int .i64 (win : Int), .int .i64 (ack : Int), .slice A Ls.length c]
  lo : B ≤ g
  row : RdS w w.heap.size 1 A Ls.length c (rowsV slc es)
  own : (k = (Value.slice A Ls.length c).ownBlock ∧ w.ownsRow B 32 1 (.slice A Ls.length c) Ls.length (rowsV slc es)) ∨ (k = none ∧ Ls.length = c)
  rne : ∀ a, A = some a → 0 < Ls.length → a.block ≠ g
  kne : k ≠ some g
  each : ∀ (i : Nat) (L : List Nat), Ls[i]? = some L → ∃ (a : Option Addr) (m : Nat), es[i]? = some (a, L.length, m) ∧ RdS w w.heap.size 1 a L.length m (rowsV f8 L) ∧ (∀ b ∈ L, b < 256) ∧ L.length ≤ 60 ∧ (∀ a', a = some a' → 0 < L.length → a'.block ≠ g ∧ some a'.block ≠ k)
theorem SdIn.eslen {B : Nat} {w : World} {g win ack c : Nat} {Ls : List (List Nat)} {A : Option Addr} {es : List Sl} {k : Option Nat} (h : SdIn B w g win ack Ls A c es k) : es.length = Ls.length := h.row.rlen slc_len (by decide)
/-- Nothing of it turned. -/
theorem SdIn.keep {S : Nat → Prop} {B : Nat} {w w' : World} {g win ack c : Nat} {Ls : List (List Nat)} {A : Option Addr} {es : List Sl} {k : Option Nat} (h : SdIn B w g win ack Ls A c es k) (hk : Kept S w w')
    (hg : ¬ S g) (hr : ∀ a, A = some a → 0 < Ls.length → ¬ S a.block) (hkS : ∀ b, k = some b → ¬ S b) (hb : ∀ (i : Nat) (L : List Nat) (a : Addr) (m : Nat), Ls[i]? = some L → es[i]? = some (some a, L.length, m) → 0 < L.length → ¬ S a.block) : SdIn B w' g win ack Ls A c es k := by
  refine ⟨hk.whole h.box hg, h.lo, h.row.kept_ne hk hr, ?_, h.rne, h.kne, fun i L hL => ?_⟩
  · rcases h.own with ⟨h1, h2⟩ | h1
    · refine .inl ⟨h1, h2.1, ?_⟩
      rcases h2.2 with h3 | ⟨b, cap, cur, e1, e2, e3, e4⟩
      · exact .inl h3
      · have hlt : b < w.heap.size := (Array.getElem?_eq_some_iff.1 e3).1
        have e1' := e1
        injection e1 with a1 _ _
        exact .inr ⟨b, cap, cur, e1', e2, (hk.block b hlt (hkS b (h1.trans (by rw [e1']; rfl)))).trans e3, e4⟩
    · exact .inr h1
  · obtain ⟨a, m, q1, q2, q3, q4, q5⟩ := h.each i L hL
    exact ⟨a, m, q1, q2.kept_ne hk (fun a' ha hn => hb i L a' m hL (ha ▸ q1) hn), q3, q4, q5⟩
theorem SdIn.low {B : Nat} {w : World} {g win ack c : Nat} {Ls : List (List Nat)} {A : Option Addr} {es : List Sl} {k : Option Nat} (h : SdIn B w g win ack Ls A c es k) {i : Nat} {L : List Nat} {a : Addr} {m : Nat} (hL : Ls[i]? = some L) (he : es[i]? = some (some a, L.length, m)) (hn : 0 < L.length) : a.block < w.heap.size := by
  obtain ⟨a', m', q1, q2, _⟩ := h.each i L hL
  rw [he] at q1
  injection q1 with q1
  injection q1 with q1 _
  exact q2.low a q1.symm hn
/-- Only new memory. -/
theorem SdIn.below {B : Nat} {w w' : World} {g win ack c : Nat} {Ls : List (List Nat)} {A : Option Addr} {es : List Sl} {k : Option Nat} (h : SdIn B w g win ack Ls A c es k) (hb : Below w.heap.size w w') : SdIn B w' g win ack Ls A c es k :=
  h.keep (S := fun _ => False) ⟨hb.os, hb.tape, hb.output, hb.size, fun i hi _ => hb.block i hi⟩ (fun e => e) (fun _ _ _ e => e) (fun _ _ e => e) (fun _ _ _ _ _ _ _ e => e)
theorem SdIn.drew {B : Nat} {w : World} {g win ack c : Nat} {Ls : List (List Nat)} {A : Option Addr} {es : List Sl} {k : Option Nat} (h : SdIn B w g win ack Ls A c es k) : SdIn B w.drew g win ack Ls A c es k := h.below ((Below.refl _ _).drew)

set_option maxRecDepth 100000 in
theorem new_any (x : Int) (w : World) : Calls Try.prog 10 #[.int .i64 x] w fun e w' => ∃ g win : Nat, e = .returned (.pointer (some ⟨g, 0, none⟩)) ∧ (win : Int) = min (max x 1) 64 ∧ SdIn w.heap.size w' g win 0 [] none 0 [] none ∧ Below w.heap.size w w' := by
  obtain ⟨win, hw⟩ : ∃ win : Nat, (win : Int) = min (max x 1) 64 := ⟨(min (max x 1) 64).toNat, by omega⟩
  have Hw := Lib.hid hw
  clear hw
  go_enter Try.func10, Try.ntmps10
  go_wp2
  go_ret
  have hB : Whole (w.alloc (.cells #[.int .i64 (min (max x 1) 64), .int .i64 0, .slice none 0 0] 66)) w.heap.size 66 [.int .i64 (min (max x 1) 64), .int .i64 0, .slice none 0 0] := Whole.new_ w _ [_, _, _]
  rw [← Hw.out] at hB ⊢
  exact ⟨w.heap.size, win, rfl, rfl, ⟨hB, Nat.le_refl _, rds_nil _ _ _, .inl ⟨rfl, World.ownsRow_nil _ _ _ _⟩, fun a ha => (by cases ha), (by simp), fun i L hL => (by simp at hL)⟩, below1 _ _⟩

set_option maxRecDepth 100000 in
theorem pushed_any {B : Nat} {g win ack c : Nat} {Ls : List (List Nat)} {A : Option Addr} {es : List Sl} {k : Option Nat} (w : World) (h : SdIn B w g win ack Ls A c es k) (ha : ack ≤ 200000) (hn : Ls.length ≤ 200000) :
    Calls Try.prog 36 #[.pointer (some ⟨g, 0, none⟩)] w fun e w' => e = .returned (.int .i64 ((ack : Int) + (Ls.length : Int))) ∧ Below w.heap.size w w' := by
  have l1 : ∀ w', Kept Nil_ w.drew w' → w'.cell? ⟨g, 1, none⟩ = some (.int .i64 (ack : Int)) := fun w' hk => hk.nil_cell (h.box.drew.cell (i := 1) rfl)
  have l2 : ∀ w', Kept Nil_ w.drew w' → w'.cell? ⟨g, 2, none⟩ = some (.slice A Ls.length c) := fun w' hk => hk.nil_cell (h.box.drew.cell (i := 2) rfl)
  have hw1 : IntKind.i64.wrap ((ack : Int) + (Ls.length : Int)) = (ack : Int) + (Ls.length : Int) := IntWalk.i64_in _ (by omega)
  clear h ha hn
  go_enter Try.func36, Try.ntmps36
  go_upto_region 1 with fail
  refine wp_region_reg (Nil_) (by kernel_rfl) ?_
  apply wpR_next 0 (some 3)
  · simp only [List.getElem?_toArray, List.getElem?_cons_succ, List.getElem?_cons_zero]; exact rfl
  · rfl
  · kernel_rfl
  · kernel_rfl
  · kernel_rfl
  · exact fun _ _ _ _ h => h
  apply Exists.intro
  apply And.intro
  · apply yr_run; rfl; intro w' hw'; go_simp; (try with_reducible rfl)
  simp only [Act.put, List.setIfInBounds_toArray, List.set_cons_zero, List.set_cons_succ]
  apply wpR_next 1 (some 4)
  · simp only [List.getElem?_toArray, List.getElem?_cons_succ, List.getElem?_cons_zero]; exact rfl
  · rfl
  · kernel_rfl
  · kernel_rfl
  · kernel_rfl
  · exact fun _ _ _ _ h => h
  apply Exists.intro
  apply And.intro
  · apply yr_run; rfl; intro w' hw'; go_simp; (try with_reducible rfl)
  simp only [Act.put, List.setIfInBounds_toArray, List.set_cons_zero, List.set_cons_succ]
  apply wpR_next 2 (some 5)
  · simp only [List.getElem?_toArray, List.getElem?_cons_succ, List.getElem?_cons_zero]; exact rfl
  · rfl
  · kernel_rfl
  · kernel_rfl
  · kernel_rfl
  · exact fun _ _ _ _ h => h
  apply Exists.intro
  apply And.intro
  · apply yr_run; rfl; intro w' hw'; go_simp; (try with_reducible rfl)
  simp only [Act.put, List.setIfInBounds_toArray, List.set_cons_zero, List.set_cons_succ]
  apply wpR_next 3 (some 6)
  · simp only [List.getElem?_toArray, List.getElem?_cons_succ, List.getElem?_cons_zero]; exact rfl
  · rfl
  · kernel_rfl
  · kernel_rfl
  · kernel_rfl
  · exact fun _ _ _ _ h => h
  apply Exists.intro
  apply And.intro
  · apply yr_run; rfl; intro w' hw'; go_simp; (try with_reducible rfl)
  simp only [Act.put, List.setIfInBounds_toArray, List.set_cons_zero, List.set_cons_succ]
  apply wpR_next 4 (some 7)
  · simp only [List.getElem?_toArray, List.getElem?_cons_succ, List.getElem?_cons_zero]; exact rfl
  · rfl
  · kernel_rfl
  · kernel_rfl
  · kernel_rfl
  · exact fun _ _ _ _ h => h
  apply Exists.intro
  apply And.intro
  · apply yr_run; rfl; intro w' hw'; go_simp; (try with_reducible rfl)
  simp only [Act.put, List.setIfInBounds_toArray, List.set_cons_zero, List.set_cons_succ]
  apply wpR_next 5 (some 8)
  · simp only [List.getElem?_toArray, List.getElem?_cons_succ, List.getElem?_cons_zero]; exact rfl
  · rfl
  · kernel_rfl
  · kernel_rfl
  · kernel_rfl
  · exact fun _ _ _ _ h => h
  apply Exists.intro
  apply And.intro
  · apply yr_run; rfl; intro w' hw'; go_simp; (try with_reducible rfl)
  simp only [Act.put, List.setIfInBounds_toArray, List.set_cons_zero, List.set_cons_succ]
  apply wpR_next 6 (some 9)
  · simp only [List.getElem?_toArray, List.getElem?_cons_succ, List.getElem?_cons_zero]; exact rfl
  · rfl
  · kernel_rfl
  · kernel_rfl
  · kernel_rfl
  · exact fun _ _ _ _ h => h
  apply Exists.intro
  apply And.intro
  · apply yr_run; rfl; intro w' hw'; go_simp; (try with_reducible rfl)
  simp only [Act.put, List.setIfInBounds_toArray, List.set_cons_zero, List.set_cons_succ]
  apply wpR_next 7 (some 10)
  · simp only [List.getElem?_toArray, List.getElem?_cons_succ, List.getElem?_cons_zero]; exact rfl
  · rfl
  · kernel_rfl
  · kernel_rfl
  · kernel_rfl
  · exact fun _ _ _ _ h => h
  apply Exists.intro
  apply And.intro
  · apply yr_run; rfl; intro w' hw'; go_simp; (try with_reducible rfl)
  simp only [Act.put, List.setIfInBounds_toArray, List.set_cons_zero, List.set_cons_succ]
  apply wpR_next 8 (some 11)
  · simp only [List.getElem?_toArray, List.getElem?_cons_succ, List.getElem?_cons_zero]; exact rfl
  · rfl
  · kernel_rfl
  · kernel_rfl
  · kernel_rfl
  · exact fun _ _ _ _ h => h
  apply Exists.intro
  apply And.intro
  · apply yr_run; rfl; intro w' hw'; go_simp; (try with_reducible rfl)
  simp only [Act.put, List.setIfInBounds_toArray, List.set_cons_zero, List.set_cons_succ]
  apply wpR_next 9 (some 12)
  · simp only [List.getElem?_toArray, List.getElem?_cons_succ, List.getElem?_cons_zero]; exact rfl
  · rfl
  · kernel_rfl
  · kernel_rfl
  · kernel_rfl
  · exact fun _ _ _ _ h => h
  apply Exists.intro
  apply And.intro
  · apply yr_run; rfl; intro w' hw'; go_simp; (try with_reducible rfl)
  simp only [Act.put, List.setIfInBounds_toArray, List.set_cons_zero, List.set_cons_succ]
  apply wpR_next 10 (some 2)
  · simp only [List.getElem?_toArray, List.getElem?_cons_succ, List.getElem?_cons_zero]; exact rfl
  · rfl
  · kernel_rfl
  · kernel_rfl
  · kernel_rfl
  · exact fun _ _ _ _ h => h
  apply Exists.intro
  apply And.intro
  · apply yr_run; rfl; intro w' hw'; go_simp; (try with_reducible rfl)
  simp only [Act.put, List.setIfInBounds_toArray, List.set_cons_zero, List.set_cons_succ]
  refine wpR_done (by kernel_rfl) ?_ _
  intro W7 hw7
  have HB7 : RowKit.Hid (Below w.heap.size w W7) := Lib.hid (((Below.refl w.heap.size w).drew).trans (hw7.mono (Nat.le_refl _)))
  clear hw7 l1 l2
  go_wp2
  go_ret
  exact ⟨rfl, HB7.out⟩
set_option maxRecDepth 100000 in
theorem next_any {B : Nat} {g win ack c : Nat} {Ls : List (List Nat)} {A : Option Addr} {es : List Sl} {k : Option Nat} (w : World) (h : SdIn B w g win ack Ls A c es k) (ha : ack ≤ 200000) (hn : Ls.length ≤ 200000) :
    Calls Try.prog 23 #[.pointer (some ⟨g, 0, none⟩)] w fun e w' => e = .returned (.int .i64 ((ack : Int) + (Ls.length : Int) + 1)) ∧ Below w.heap.size w w' := by
  have HP := Lib.hid (pushed_any w h ha hn)
  have hw1 : IntKind.i64.wrap ((ack : Int) + (Ls.length : Int) + 1) = (ack : Int) + (Ls.length : Int) + 1 := IntWalk.i64_in _ (by omega)
  clear h ha hn
  go_enter Try.func23, Try.ntmps23
  go_wp2_with (first | (go_at_call 36; refine HP.out.mono ?_; rintro e w' ⟨rfl, hb⟩; have HB := Lib.hid hb; clear hb))
  go_ret
  exact ⟨rfl, HB.out⟩
end Go.Proofs.Ythfngmlnmpbcpaa
