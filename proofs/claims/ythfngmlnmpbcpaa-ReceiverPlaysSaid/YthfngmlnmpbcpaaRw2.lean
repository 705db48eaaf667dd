/- The document's Take. -/
import Derived.Test.YthfngmlnmpbcpaaRw1
namespace Go.Proofs.Ythfngmlnmpbcpaa
open Go.RowKit Go.Maps
set_option linter.unusedSimpArgs false
set_option linter.unusedVariables false

/-- What the document's Take does with one that is in the window and not held. -/
def QTaken (w : World) (g win got : Nat) (QL : List HE) (s : Nat) (L : List Nat) (e : Ending) (w' : World) : Prop :=
  ∃ (sl : Sl) (A : Option Addr) (c : Nat) (Ao : Option Addr) (co : Nat), e = .returned (.tuple #[.slice Ao (drain got (insH (s, sl, L) QL)).2.1.length co, .int .i64 0]) ∧
    QrIn w' g win (drain got (insH (s, sl, L) QL)).1 (drain got (insH (s, sl, L) QL)).2.2 A c ∧ RdS w' w'.heap.size 1 Ao (drain got (insH (s, sl, L) QL)).2.1.length co (rowsV slc ((drain got (insH (s, sl, L) QL)).2.1.map (·.2.1))) ∧
    (∀ y ∈ (drain got (insH (s, sl, L) QL)).2.1, Lies w' y.2.1 y.2.2) ∧ (∀ a, A = some a → w.heap.size ≤ a.block) ∧ (∀ b, b < w.heap.size → Off sl b) ∧ Kept (fun b => b = g) w w'
/-- What is in its turn is told: a round's beginning. -/
structure DrIn (w wr : World) (g win got : Nat) (NL0 : List HE) (V : Value) (v : Value) (A : Option Addr) (c : Nat) (T NL : List HE) : Prop where
  box : Whole wr g 57 [.int .i64 (win : Int), .int .i64 ((got + T.length : Nat) : Int), V]
  row : RdS wr wr.heap.size 2 A NL.length c (rowsV hC NL)
  new_ : ∀ a, A = some a → w.heap.size ≤ a.block
  eq : drain got NL0 = ((drain (got + T.length) NL).1, T ++ (drain (got + T.length) NL).2.1, (drain (got + T.length) NL).2.2)
  lies : ∀ e ∈ NL, Lies wr e.2.1 e.2.2 ∧ Off e.2.1 g
  told : ∀ e ∈ T, Lies wr e.2.1 e.2.2 ∧ Off e.2.1 g
  own : wr.ownsRow w.heap.size 32 1 v T.length (rowsV slc (T.map (·.2.1)))
  far : ∀ b, v.ownBlock = some b → b ≠ g ∧ (∀ a, A = some a → a.block ≠ b) ∧ (∀ e ∈ NL, Off e.2.1 b) ∧ ∀ e ∈ T, Off e.2.1 b
  rise : NL.Pairwise (fun p q => p.1 < q.1)
  gt : ∀ e ∈ NL, got + T.length < e.1
  kept : Kept (fun b => b = g) w wr
  many : T.length + NL.length = NL0.length
  glt : g < w.heap.size
theorem DrIn.down {w wr W : World} {g win got c : Nat} {NL0 : List HE} {V v : Value} {A : Option Addr} {T NL : List HE} (h : DrIn w wr g win got NL0 V v A c T NL) (hb : Below wr.heap.size wr W) : DrIn w W g win got NL0 V v A c T NL :=
  ⟨h.box.below hb, h.row.bl hb, h.new_, h.eq, fun e he => ⟨(h.lies e he).1.below hb, (h.lies e he).2⟩, fun e he => ⟨(h.told e he).1.below hb, (h.told e he).2⟩, own_up h.own hb, h.far, h.rise, h.gt, h.kept.trans (Kept.of_below hb), h.many, h.glt⟩
theorem DrIn.first {w wr : World} {g win got c c0 : Nat} {QL NL : List HE} {A A0 : Option Addr} {s : Nat} {L : List Nat} {sl : Sl} (h : QrIn w g win got QL A0 c0) (hf : FuIn w wr QL s L A c NL sl) (hs : got < s) :
    DrIn w (wr.alloc (.cells #[] 32)) g win got NL (.slice A0 QL.length c0) (.slice (some ⟨wr.heap.size, 0, none⟩) 0 0) A c [] NL := by
  have hw := h.below hf.below
  have hal : Below wr.heap.size wr (wr.alloc (.cells #[] 32)) := below1 _ _
  have hO : Ow wr wr.heap.size 32 1 (.slice (some ⟨wr.heap.size, 0, none⟩) 0 0) 0 [] (wr.alloc (.cells #[] 32)) := Ow.new_ (cs := #[]) (Below.refl _ _) (Nat.le_refl _) (Nat.le_refl _) (Nat.zero_le _) rfl
  have hl : ∀ e ∈ NL, Lies wr e.2.1 e.2.2 ∧ Off e.2.1 g := fun e he => by
    rw [hf.eq] at he
    rcases mem_insH.1 he with rfl | he
    · exact ⟨hf.lies, hf.fresh g h.box.lt⟩
    · exact hw.each e he
  refine ⟨hw.box.below hal, hf.row.bl hal, hf.new_, rfl, fun e he => ⟨(hl e he).1.below hal, (hl e he).2⟩, fun e he => (by cases he), own_lo hO.own hf.below.size, fun b hb => ?_, by rw [hf.eq]; exact rise_insH h.rise hf.ns, fun e he => ?_, Kept.of_below (bel_bl hf.below hal), by simp, h.box.lt⟩
  · have hb2 : wr.heap.size = b := Option.some.inj hb
    subst hb2
    refine ⟨by have h1 := h.box.lt; have h2 := hf.below.size; omega, fun a ha e' => ?_, fun e he => (hl e he).1.fresh (Nat.le_refl _), fun e he => (by cases he)⟩
    have := hf.row.low a ha (by rw [hf.eq]; exact List.length_pos_of_mem (mem_insH.2 (.inl rfl)))
    omega
  · rw [hf.eq] at he
    rcases mem_insH.1 he with rfl | he
    · exact hs
    · exact h.gt e he
theorem DrIn.next {w wr Wa : World} {g win got c : Nat} {NL0 : List HE} {V v : Value} {A : Option Addr} {T r : List HE} {e : HE} (h : DrIn w wr g win got NL0 V v A c T (e :: r)) (h100 : NL0.length ≤ 1000) (he : e.1 = got + T.length + 1) (hx : Ext wr Wa) (ty : TypeId) :
    ∃ v' W1, (Builtin.append_ #[34, 34] ty #[v, .slice (some ⟨Wa.heap.size, 0, none⟩) 1 1]).run Try.prog (Wa.alloc (.cells #[.slice e.2.1.1 e.2.1.2.1 e.2.1.2.2] 32)) = .ok v' W1 ∧ Whole W1 g 57 [.int .i64 (win : Int), .int .i64 ((got + T.length : Nat) : Int), V] ∧
      DrIn w (W1.setCell ⟨g, 1, none⟩ (.int .i64 (((got + T.length : Nat) : Int) + 1))) g win got NL0 V v' (if c = 1 then A else A.map (·.add (1 * 2))) (c - 1) (T ++ [e]) r := by
  obtain ⟨i0, hi, hz0, hz1, hz2⟩ := info_parts_ info_sl
  have ha := h.down hx
  have hmany := h.many
  rw [List.length_cons] at hmany
  have hal : Below Wa.heap.size Wa (Wa.alloc (.cells #[.slice e.2.1.1 e.2.1.2.1 e.2.1.2.2] 32)) := below1 _ _
  have hb := ha.down hal
  have hRd : RdS (Wa.alloc (.cells #[.slice e.2.1.1 e.2.1.2.1 e.2.1.2.2] 32)) (Wa.alloc (.cells #[.slice e.2.1.1 e.2.1.2.1 e.2.1.2.2] 32)).heap.size 1 (some ⟨Wa.heap.size, 0, none⟩) 1 1 (rowsV slc [e.2.1]) := RdS.of_whole (size := 1) (n := 1) (Whole.new_ Wa 32 [.slice e.2.1.1 e.2.1.2.1 e.2.1.2.2]) rfl
  obtain ⟨v', W1, hrun, hown', hg, _, hbk⟩ := run_append_own_at (P := Try.prog) _ w.heap.size 34 ty 32 i0 _ 1 24 Try.underlying34 hi hz0 hz1 hz2 rfl (by decide) _ _ _ hb.own ⟨Wa.heap.size, 0, none⟩ 1 1 _ hRd.len (hRd.cell _ rfl) (slc_all _) (by unfold maxLen; omega) (by omega) (by have h1 := hb.kept.size; exact h1)
  have hka : Kept (fun b => some b = v.ownBlock) (Wa.alloc (.cells #[.slice e.2.1.1 e.2.1.2.1 e.2.1.2.2] 32)) W1 := ⟨hg.os, hg.tape, hg.output, hg.size, fun i hi hne => hg.block i hi hne⟩
  rw [← rowsV_app] at hown'
  have hkg : Kept (fun b => b = g) W1 (W1.setCell ⟨g, 1, none⟩ (.int .i64 (((got + T.length : Nat) : Int) + 1))) := (Kept.refl (fun b => b = g) W1).setCell (p := ⟨g, 1, none⟩) (.inl rfl) _
  have hbox1 : Whole W1 g 57 [.int .i64 (win : Int), .int .i64 ((got + T.length : Nat) : Int), V] := hka.whole hb.box (fun e' => (hb.far g e'.symm).1 rfl)
  have hgt1 : ∀ y ∈ r, e.1 < y.1 := (List.pairwise_cons.1 h.rise).1
  have hlen : (T ++ [e]).length = T.length + 1 := by rw [List.length_append]; rfl
  have hmem : ∀ y ∈ T ++ [e], Lies (Wa.alloc (.cells #[.slice e.2.1.1 e.2.1.2.1 e.2.1.2.2] 32)) y.2.1 y.2.2 ∧ Off y.2.1 g ∧ ∀ b, v.ownBlock = some b → Off y.2.1 b := fun y hy => by
    rcases List.mem_append.1 hy with hy | hy
    · exact ⟨(hb.told y hy).1, (hb.told y hy).2, fun b hb' => (hb.far b hb').2.2.2 y hy⟩
    · obtain rfl : y = e := by simpa using hy
      exact ⟨(hb.lies y (by simp)).1, (hb.lies y (by simp)).2, fun b hb' => (hb.far b hb').2.2.1 y (by simp)⟩
  have hrow1 : RdS W1 W1.heap.size 2 A (e :: r).length c (rowsV hC (e :: r)) := hb.row.kept_ne hka (fun a ha' hn e' => (hb.far _ e'.symm).2.1 a ha' rfl)
  have hvown : ∀ b, v'.ownBlock = some b → b ≠ g ∧ (∀ a, A = some a → a.block ≠ b) ∧ (∀ y ∈ r, Off y.2.1 b) ∧ ∀ y ∈ T ++ [e], Off y.2.1 b := fun b hb' => by
    rcases hbk with e' | e'
    · have h1 := hb.far b (e'.symm.trans hb')
      exact ⟨h1.1, h1.2.1, fun y hy => h1.2.2.1 y (by simp [hy]), fun y hy => (hmem y hy).2.2 b (e'.symm.trans hb')⟩
    · obtain rfl := Option.some.inj (hb'.symm.trans e')
      refine ⟨by have h1 := h.glt; have h2 := hb.kept.size; omega, fun a ha' e2 => ?_, fun y hy => (hb.lies y (by simp [hy])).1.fresh (Nat.le_refl _), fun y hy => (hmem y hy).1.fresh (Nat.le_refl _)⟩
      have := hb.row.low a ha' (by simp)
      omega
  refine ⟨v', W1, hrun, hbox1, ?_, ?_, ?_, ?_, fun y hy => ?_, fun y hy => ?_, ?_, fun b hb' => ?_, (List.pairwise_cons.1 h.rise).2, fun y hy => ?_, ?_, ?_, h.glt⟩
  · have := hbox1.set_ 1 (.int .i64 (((got + T.length : Nat) : Int) + 1))
    rw [hlen, show ((got + (T.length + 1) : Nat) : Int) = ((got + T.length : Nat) : Int) + 1 by omega]
    exact this
  · have h1 := hrow1.low_ (k := 1) (by simp)
    rw [← rowsV_drop hC hC_len] at h1
    have h2 : RdS W1 W1.heap.size 2 (if c = 1 then A else A.map (·.add (1 * 2))) r.length (c - 1) (rowsV hC r) := h1
    refine h2.kept_ne hkg (fun a ha' hn e' => ?_)
    have h3 : a.block = g := e'
    have h4 := h.glt
    split at ha'
    · have := h.new_ a ha'; omega
    · cases hA : A with
      | none => rw [hA] at ha'; cases ha'
      | some a0 =>
        rw [hA] at ha'
        have h5 := h.new_ a0 hA
        have h6 : a.block = a0.block := by rw [← Option.some.inj ha']; exact add_block _ _
        omega
  · intro a ha'
    split at ha'
    · exact h.new_ a ha'
    · cases hA : A with
      | none => rw [hA] at ha'; cases ha'
      | some a0 =>
        rw [hA] at ha'
        have h5 := h.new_ a0 hA
        have h6 : a.block = a0.block := by rw [← Option.some.inj ha']; exact add_block _ _
        omega
  · rw [h.eq, drain_hit he, hlen, List.append_assoc]
    rfl
  · have h1 := hb.lies y (by simp [hy])
    exact ⟨(h1.1.keep hka (fun b hb' => (hb.far b hb'.symm).2.2.1 y (by simp [hy]))).keep hkg (fun b hb' => by have h9 : b = g := hb'; rw [h9]; exact h1.2), h1.2⟩
  · have h1 := hmem y hy
    exact ⟨(h1.1.keep hka (fun b hb' => h1.2.2 b hb'.symm)).keep hkg (fun b hb' => by have h9 : b = g := hb'; rw [h9]; exact h1.2.1), h1.2.1⟩
  · rw [hlen, List.map_append]
    exact own_kept hown' hkg (fun b hb' e' => (hvown b hb').1 e')
  · have h1 := hvown b hb'
    refine ⟨h1.1, fun a ha' => ?_, h1.2.2.1, h1.2.2.2⟩
    split at ha'
    · exact h1.2.1 a ha'
    · cases hA : A with
      | none => rw [hA] at ha'; cases ha'
      | some a0 =>
        rw [hA] at ha'
        have h6 : a.block = a0.block := by rw [← Option.some.inj ha']; exact add_block _ _
        rw [h6]
        exact h1.2.1 a0 hA
  · have := hgt1 y hy
    rw [hlen]
    omega
  · have K := hb.kept
    have K2 : Kept (fun b => b = g) w W1 := ⟨hka.os.trans K.os, hka.tape.trans K.tape, hka.output.trans K.output, Nat.le_trans K.size hka.size, fun i hi hne' => (hka.block i (Nat.lt_of_lt_of_le hi K.size) (fun e' => by have := (hb.own.lt i e'.symm).1; omega)).trans (K.block i hi hne')⟩
    exact K2.trans hkg
  · rw [hlen]; omega
theorem DrIn.done {w wr : World} {g win got c s n m : Nat} {QL T NL : List HE} {V : Value} {A Ao : Option Addr} {co : Nat} {L : List Nat} {sl : Sl} (h : DrIn w wr g win got (insH (s, sl, L) QL) V (.slice Ao n co) A c T NL) (hno : ∀ e ∈ NL, e.1 ≠ got + T.length + 1) (hn : n = T.length) (hm : m = NL.length) (ho : ∀ b, b < w.heap.size → Off sl b) :
    QTaken w g win got QL s L (.returned (.tuple #[.slice Ao n co, .int .i64 0])) (wr.setCell ⟨g, 2, none⟩ (.slice A m c)) := by
  subst hn hm
  have e := h.eq
  rw [drain_miss hno] at e
  simp only [List.append_nil] at e
  have hkg : Kept (fun b => b = g) wr (wr.setCell ⟨g, 2, none⟩ (.slice A NL.length c)) := (Kept.refl (fun b => b = g) wr).setCell (p := ⟨g, 2, none⟩) (.inl rfl) _
  obtain ⟨A', c', e', hr⟩ := RdS.of_own h.own
  injection e' with e1 _ e3
  subst e1 e3
  have hg1 := h.glt
  refine ⟨sl, A, c, Ao, co, by rw [e], ?_, ?_, ?_, h.new_, ho, h.kept.trans hkg⟩
  · rw [e]
    exact ⟨h.box.set_ 2 _, h.row.kept_ne hkg (fun a ha hn e' => by have h1 := h.new_ a ha; have h2 : a.block = g := e'; omega), fun a ha hn e' => by have h1 := h.new_ a ha; omega, fun y hy => ⟨(h.lies y hy).1.keep hkg (fun b hb => by have h9 : b = g := hb; rw [h9]; exact (h.lies y hy).2), (h.lies y hy).2⟩, h.rise, h.gt⟩
  · rw [e]
    refine hr.kept_ne hkg (fun a ha hn e' => ?_)
    subst ha
    have h1 := (h.own.lt a.block rfl).1
    have h2 : a.block = g := e'
    omega
  · rw [e]
    exact fun y hy => (h.told y hy).1.keep hkg (fun b hb => by have h9 : b = g := hb; rw [h9]; exact (h.told y hy).2)
set_option maxRecDepth 100000 in
set_option maxHeartbeats 1000000 in
theorem take2_lo {g win got c : Nat} {QL : List HE} {A : Option Addr} (w : World) (h : QrIn w g win got QL A c) (hg : got ≤ 100000) (hwin : win ≤ 64) (A1 : Option Addr) (n1 c1 : Nat) (x : Int) (hx1 : -2000000 ≤ x) (hx2 : x ≤ 9223372036854775807) (hl : x ≤ (got : Int)) :
    Calls Try.prog 30 #[.pointer (some ⟨g, 0, none⟩), .int .i64 x, .slice A1 n1 c1] w fun e w' => e = .returned (.tuple #[.slice none 0 0, .int .i64 22]) ∧ Below w.heap.size w w' := by
  have ld0 : ∀ w', Kept Nil_ w.drew w' → w'.cell? ⟨g, 0, none⟩ = some (.int .i64 (win : Int)) := fun w' hk => hk.nil_cell (h.box.drew.cell (i := 0) rfl)
  have ld1 : ∀ w', Kept Nil_ w.drew w' → w'.cell? ⟨g, 1, none⟩ = some (.int .i64 (got : Int)) := fun w' hk => hk.nil_cell (h.box.drew.cell (i := 1) rfl)
  have hws : IntKind.i64.wrap (x - (win : Int)) = x - (win : Int) := IntWalk.i64_in _ (by omega)
  have t1 : decide (x ≤ (got : Int)) = true := decide_eq_true hl
  clear h
  go_enter Try.func30, Try.ntmps30
  go_upto_region 1 with fail
  refine wp_region_reg (Nil_) (by kernel_rfl) ?_
  apply wpR_next 0 (some 12)
  · simp only [List.getElem?_toArray, List.getElem?_cons_succ, List.getElem?_cons_zero]; exact rfl
  · rfl
  · kernel_rfl
  · kernel_rfl
  · kernel_rfl
  · exact fun _ _ _ _ h => h
  apply Exists.intro
  apply And.intro
  · apply yr_run; rfl; intro w' hw'; go_simp; (try with_reducible rfl)
  simp only [Act.put, List.setIfInBounds_toArray, List.set_cons_zero, List.set_cons_succ]
  apply wpR_next 1 (some 13)
  · simp only [List.getElem?_toArray, List.getElem?_cons_succ, List.getElem?_cons_zero]; exact rfl
  · rfl
  · kernel_rfl
  · kernel_rfl
  · kernel_rfl
  · exact fun _ _ _ _ h => h
  apply Exists.intro
  apply And.intro
  · apply yr_run; rfl; intro w' hw'; go_simp; (try with_reducible rfl)
  simp only [Act.put, List.setIfInBounds_toArray, List.set_cons_zero, List.set_cons_succ]
  apply wpR_next 2 (some 14)
  · simp only [List.getElem?_toArray, List.getElem?_cons_succ, List.getElem?_cons_zero]; exact rfl
  · rfl
  · kernel_rfl
  · kernel_rfl
  · kernel_rfl
  · exact fun _ _ _ _ h => h
  apply Exists.intro
  apply And.intro
  · apply yr_run; rfl; intro w' hw'; go_simp; (try with_reducible rfl)
  simp only [Act.put, List.setIfInBounds_toArray, List.set_cons_zero, List.set_cons_succ]
  apply wpR_next 3 (some 15)
  · simp only [List.getElem?_toArray, List.getElem?_cons_succ, List.getElem?_cons_zero]; exact rfl
  · rfl
  · kernel_rfl
  · kernel_rfl
  · kernel_rfl
  · exact fun _ _ _ _ h => h
  apply Exists.intro
  apply And.intro
  · apply yr_run; rfl; intro w' hw'; go_simp; (try with_reducible rfl)
  simp only [Act.put, List.setIfInBounds_toArray, List.set_cons_zero, List.set_cons_succ]
  apply wpR_next 4 (some 16)
  · simp only [List.getElem?_toArray, List.getElem?_cons_succ, List.getElem?_cons_zero]; exact rfl
  · rfl
  · kernel_rfl
  · kernel_rfl
  · kernel_rfl
  · exact fun _ _ _ _ h => h
  apply Exists.intro
  apply And.intro
  · apply yr_run; rfl; intro w' hw'; go_simp; (try with_reducible rfl)
  simp only [Act.put, List.setIfInBounds_toArray, List.set_cons_zero, List.set_cons_succ]
  apply wpR_next 5 (some 17)
  · simp only [List.getElem?_toArray, List.getElem?_cons_succ, List.getElem?_cons_zero]; exact rfl
  · rfl
  · kernel_rfl
  · kernel_rfl
  · kernel_rfl
  · exact fun _ _ _ _ h => h
  apply Exists.intro
  apply And.intro
  · apply yr_run; rfl; intro w' hw'; go_simp; (try with_reducible rfl)
  simp only [Act.put, List.setIfInBounds_toArray, List.set_cons_zero, List.set_cons_succ]
  apply wpR_next 6 (some 18)
  · simp only [List.getElem?_toArray, List.getElem?_cons_succ, List.getElem?_cons_zero]; exact rfl
  · rfl
  · kernel_rfl
  · kernel_rfl
  · kernel_rfl
  · exact fun _ _ _ _ h => h
  apply Exists.intro
  apply And.intro
  · apply yr_run; rfl; intro w' hw'; go_simp; (try with_reducible rfl)
  simp only [Act.put, List.setIfInBounds_toArray, List.set_cons_zero, List.set_cons_succ]
  apply wpR_next 7 (some 19)
  · simp only [List.getElem?_toArray, List.getElem?_cons_succ, List.getElem?_cons_zero]; exact rfl
  · rfl
  · kernel_rfl
  · kernel_rfl
  · kernel_rfl
  · exact fun _ _ _ _ h => h
  apply Exists.intro
  apply And.intro
  · exact yr_skip (by rfl)
  simp only [Act.put, List.setIfInBounds_toArray, List.set_cons_zero, List.set_cons_succ]
  apply wpR_next 8 (some 20)
  · simp only [List.getElem?_toArray, List.getElem?_cons_succ, List.getElem?_cons_zero]; exact rfl
  · rfl
  · kernel_rfl
  · kernel_rfl
  · kernel_rfl
  · exact fun _ _ _ _ h => h
  apply Exists.intro
  apply And.intro
  · exact yr_skip (by rfl)
  simp only [Act.put, List.setIfInBounds_toArray, List.set_cons_zero, List.set_cons_succ]
  apply wpR_next 9 (some 21)
  · simp only [List.getElem?_toArray, List.getElem?_cons_succ, List.getElem?_cons_zero]; exact rfl
  · rfl
  · kernel_rfl
  · kernel_rfl
  · kernel_rfl
  · exact fun _ _ _ _ h => h
  apply Exists.intro
  apply And.intro
  · exact yr_skip (by rfl)
  simp only [Act.put, List.setIfInBounds_toArray, List.set_cons_zero, List.set_cons_succ]
  apply wpR_next 10 (some 22)
  · simp only [List.getElem?_toArray, List.getElem?_cons_succ, List.getElem?_cons_zero]; exact rfl
  · rfl
  · kernel_rfl
  · kernel_rfl
  · kernel_rfl
  · exact fun _ _ _ _ h => h
  apply Exists.intro
  apply And.intro
  · exact yr_skip (by rfl)
  simp only [Act.put, List.setIfInBounds_toArray, List.set_cons_zero, List.set_cons_succ]
  apply wpR_next 11 (some 23)
  · simp only [List.getElem?_toArray, List.getElem?_cons_succ, List.getElem?_cons_zero]; exact rfl
  · rfl
  · kernel_rfl
  · kernel_rfl
  · kernel_rfl
  · exact fun _ _ _ _ h => h
  apply Exists.intro
  apply And.intro
  · exact yr_skip (by rfl)
  simp only [Act.put, List.setIfInBounds_toArray, List.set_cons_zero, List.set_cons_succ]
  apply wpR_next 12 (some 24)
  · simp only [List.getElem?_toArray, List.getElem?_cons_succ, List.getElem?_cons_zero]; exact rfl
  · rfl
  · kernel_rfl
  · kernel_rfl
  · kernel_rfl
  · exact fun _ _ _ _ h => h
  apply Exists.intro
  apply And.intro
  · exact yr_skip (by rfl)
  simp only [Act.put, List.setIfInBounds_toArray, List.set_cons_zero, List.set_cons_succ]
  apply wpR_next 13 (some 25)
  · simp only [List.getElem?_toArray, List.getElem?_cons_succ, List.getElem?_cons_zero]; exact rfl
  · rfl
  · kernel_rfl
  · kernel_rfl
  · kernel_rfl
  · exact fun _ _ _ _ h => h
  apply Exists.intro
  apply And.intro
  · exact yr_skip (by rfl)
  simp only [Act.put, List.setIfInBounds_toArray, List.set_cons_zero, List.set_cons_succ]
  apply wpR_next 14 (some 26)
  · simp only [List.getElem?_toArray, List.getElem?_cons_succ, List.getElem?_cons_zero]; exact rfl
  · rfl
  · kernel_rfl
  · kernel_rfl
  · kernel_rfl
  · exact fun _ _ _ _ h => h
  apply Exists.intro
  apply And.intro
  · exact yr_skip (by rfl)
  simp only [Act.put, List.setIfInBounds_toArray, List.set_cons_zero, List.set_cons_succ]
  apply wpR_next 15 (some 27)
  · simp only [List.getElem?_toArray, List.getElem?_cons_succ, List.getElem?_cons_zero]; exact rfl
  · rfl
  · kernel_rfl
  · kernel_rfl
  · kernel_rfl
  · exact fun _ _ _ _ h => h
  apply Exists.intro
  apply And.intro
  · exact yr_skip (by rfl)
  simp only [Act.put, List.setIfInBounds_toArray, List.set_cons_zero, List.set_cons_succ]
  apply wpR_next 16 (some 28)
  · simp only [List.getElem?_toArray, List.getElem?_cons_succ, List.getElem?_cons_zero]; exact rfl
  · rfl
  · kernel_rfl
  · kernel_rfl
  · kernel_rfl
  · exact fun _ _ _ _ h => h
  apply Exists.intro
  apply And.intro
  · exact yr_skip (by rfl)
  simp only [Act.put, List.setIfInBounds_toArray, List.set_cons_zero, List.set_cons_succ]
  apply wpR_next 17 (some 29)
  · simp only [List.getElem?_toArray, List.getElem?_cons_succ, List.getElem?_cons_zero]; exact rfl
  · rfl
  · kernel_rfl
  · kernel_rfl
  · kernel_rfl
  · exact fun _ _ _ _ h => h
  apply Exists.intro
  apply And.intro
  · exact yr_skip (by rfl)
  simp only [Act.put, List.setIfInBounds_toArray, List.set_cons_zero, List.set_cons_succ]
  apply wpR_next 18 (some 30)
  · simp only [List.getElem?_toArray, List.getElem?_cons_succ, List.getElem?_cons_zero]; exact rfl
  · rfl
  · kernel_rfl
  · kernel_rfl
  · kernel_rfl
  · exact fun _ _ _ _ h => h
  apply Exists.intro
  apply And.intro
  · apply yr_run; rfl; intro w' hw'; go_simp; (try with_reducible rfl)
  simp only [Act.put, List.setIfInBounds_toArray, List.set_cons_zero, List.set_cons_succ]
  refine wpR_done (by kernel_rfl) ?_ _
  intro W7 hw7
  have HB7 : RowKit.Hid (Below w.heap.size w W7) := Lib.hid (((Below.refl w.heap.size w).drew).trans (hw7.mono (Nat.le_refl _)))
  clear hw7 ld0 ld1
  go_wp2
  refine bodyPost_ret (v := .tuple #[.slice none 0 0, .int .i64 22]) (by simp [results, Try.results30, go_sem]) rfl ⟨rfl, HB7.out⟩
set_option maxRecDepth 100000 in
set_option maxHeartbeats 1000000 in
theorem take2_hi {g win got c : Nat} {QL : List HE} {A : Option Addr} (w : World) (h : QrIn w g win got QL A c) (hg : got ≤ 100000) (hwin : win ≤ 64) (A1 : Option Addr) (n1 c1 : Nat) (x : Int) (hx1 : -2000000 ≤ x) (hx2 : x ≤ 9223372036854775807) (hl : (got : Int) < x) (hh : (got : Int) + (win : Int) < x) :
    Calls Try.prog 30 #[.pointer (some ⟨g, 0, none⟩), .int .i64 x, .slice A1 n1 c1] w fun e w' => e = .returned (.tuple #[.slice none 0 0, .int .i64 22]) ∧ Below w.heap.size w w' := by
  have ld0 : ∀ w', Kept Nil_ w.drew w' → w'.cell? ⟨g, 0, none⟩ = some (.int .i64 (win : Int)) := fun w' hk => hk.nil_cell (h.box.drew.cell (i := 0) rfl)
  have ld1 : ∀ w', Kept Nil_ w.drew w' → w'.cell? ⟨g, 1, none⟩ = some (.int .i64 (got : Int)) := fun w' hk => hk.nil_cell (h.box.drew.cell (i := 1) rfl)
  have hws : IntKind.i64.wrap (x - (win : Int)) = x - (win : Int) := IntWalk.i64_in _ (by omega)
  have t1 : decide (x ≤ (got : Int)) = false := decide_eq_false (by omega)
  have t2 : decide ((got : Int) < x - (win : Int)) = true := decide_eq_true (by omega)
  clear h
  go_enter Try.func30, Try.ntmps30
  go_upto_region 1 with fail
  refine wp_region_reg (Nil_) (by kernel_rfl) ?_
  apply wpR_next 0 (some 12)
  · simp only [List.getElem?_toArray, List.getElem?_cons_succ, List.getElem?_cons_zero]; exact rfl
  · rfl
  · kernel_rfl
  · kernel_rfl
  · kernel_rfl
  · exact fun _ _ _ _ h => h
  apply Exists.intro
  apply And.intro
  · apply yr_run; rfl; intro w' hw'; go_simp; (try with_reducible rfl)
  simp only [Act.put, List.setIfInBounds_toArray, List.set_cons_zero, List.set_cons_succ]
  apply wpR_next 1 (some 13)
  · simp only [List.getElem?_toArray, List.getElem?_cons_succ, List.getElem?_cons_zero]; exact rfl
  · rfl
  · kernel_rfl
  · kernel_rfl
  · kernel_rfl
  · exact fun _ _ _ _ h => h
  apply Exists.intro
  apply And.intro
  · apply yr_run; rfl; intro w' hw'; go_simp; (try with_reducible rfl)
  simp only [Act.put, List.setIfInBounds_toArray, List.set_cons_zero, List.set_cons_succ]
  apply wpR_next 2 (some 14)
  · simp only [List.getElem?_toArray, List.getElem?_cons_succ, List.getElem?_cons_zero]; exact rfl
  · rfl
  · kernel_rfl
  · kernel_rfl
  · kernel_rfl
  · exact fun _ _ _ _ h => h
  apply Exists.intro
  apply And.intro
  · apply yr_run; rfl; intro w' hw'; go_simp; (try with_reducible rfl)
  simp only [Act.put, List.setIfInBounds_toArray, List.set_cons_zero, List.set_cons_succ]
  apply wpR_next 3 (some 15)
  · simp only [List.getElem?_toArray, List.getElem?_cons_succ, List.getElem?_cons_zero]; exact rfl
  · rfl
  · kernel_rfl
  · kernel_rfl
  · kernel_rfl
  · exact fun _ _ _ _ h => h
  apply Exists.intro
  apply And.intro
  · apply yr_run; rfl; intro w' hw'; go_simp; (try with_reducible rfl)
  simp only [Act.put, List.setIfInBounds_toArray, List.set_cons_zero, List.set_cons_succ]
  apply wpR_next 4 (some 16)
  · simp only [List.getElem?_toArray, List.getElem?_cons_succ, List.getElem?_cons_zero]; exact rfl
  · rfl
  · kernel_rfl
  · kernel_rfl
  · kernel_rfl
  · exact fun _ _ _ _ h => h
  apply Exists.intro
  apply And.intro
  · apply yr_run; rfl; intro w' hw'; go_simp; (try with_reducible rfl)
  simp only [Act.put, List.setIfInBounds_toArray, List.set_cons_zero, List.set_cons_succ]
  apply wpR_next 5 (some 17)
  · simp only [List.getElem?_toArray, List.getElem?_cons_succ, List.getElem?_cons_zero]; exact rfl
  · rfl
  · kernel_rfl
  · kernel_rfl
  · kernel_rfl
  · exact fun _ _ _ _ h => h
  apply Exists.intro
  apply And.intro
  · apply yr_run; rfl; intro w' hw'; go_simp; (try with_reducible rfl)
  simp only [Act.put, List.setIfInBounds_toArray, List.set_cons_zero, List.set_cons_succ]
  apply wpR_next 6 (some 18)
  · simp only [List.getElem?_toArray, List.getElem?_cons_succ, List.getElem?_cons_zero]; exact rfl
  · rfl
  · kernel_rfl
  · kernel_rfl
  · kernel_rfl
  · exact fun _ _ _ _ h => h
  apply Exists.intro
  apply And.intro
  · apply yr_run; rfl; intro w' hw'; go_simp; (try with_reducible rfl)
  simp only [Act.put, List.setIfInBounds_toArray, List.set_cons_zero, List.set_cons_succ]
  apply wpR_next 7 (some 19)
  · simp only [List.getElem?_toArray, List.getElem?_cons_succ, List.getElem?_cons_zero]; exact rfl
  · rfl
  · kernel_rfl
  · kernel_rfl
  · kernel_rfl
  · exact fun _ _ _ _ h => h
  apply Exists.intro
  apply And.intro
  · apply yr_run; rfl; intro w' hw'; go_simp; (try with_reducible rfl)
  simp only [Act.put, List.setIfInBounds_toArray, List.set_cons_zero, List.set_cons_succ]
  apply wpR_next 8 (some 20)
  · simp only [List.getElem?_toArray, List.getElem?_cons_succ, List.getElem?_cons_zero]; exact rfl
  · rfl
  · kernel_rfl
  · kernel_rfl
  · kernel_rfl
  · exact fun _ _ _ _ h => h
  apply Exists.intro
  apply And.intro
  · apply yr_run; rfl; intro w' hw'; go_simp; (try with_reducible rfl)
  simp only [Act.put, List.setIfInBounds_toArray, List.set_cons_zero, List.set_cons_succ]
  apply wpR_next 9 (some 21)
  · simp only [List.getElem?_toArray, List.getElem?_cons_succ, List.getElem?_cons_zero]; exact rfl
  · rfl
  · kernel_rfl
  · kernel_rfl
  · kernel_rfl
  · exact fun _ _ _ _ h => h
  apply Exists.intro
  apply And.intro
  · apply yr_run; rfl; intro w' hw'; go_simp; (try with_reducible rfl)
  simp only [Act.put, List.setIfInBounds_toArray, List.set_cons_zero, List.set_cons_succ]
  apply wpR_next 10 (some 22)
  · simp only [List.getElem?_toArray, List.getElem?_cons_succ, List.getElem?_cons_zero]; exact rfl
  · rfl
  · kernel_rfl
  · kernel_rfl
  · kernel_rfl
  · exact fun _ _ _ _ h => h
  apply Exists.intro
  apply And.intro
  · apply yr_run; rfl; intro w' hw'; go_simp; (try with_reducible rfl)
  simp only [Act.put, List.setIfInBounds_toArray, List.set_cons_zero, List.set_cons_succ]
  apply wpR_next 11 (some 23)
  · simp only [List.getElem?_toArray, List.getElem?_cons_succ, List.getElem?_cons_zero]; exact rfl
  · rfl
  · kernel_rfl
  · kernel_rfl
  · kernel_rfl
  · exact fun _ _ _ _ h => h
  apply Exists.intro
  apply And.intro
  · apply yr_run; rfl; intro w' hw'; go_simp; (try with_reducible rfl)
  simp only [Act.put, List.setIfInBounds_toArray, List.set_cons_zero, List.set_cons_succ]
  apply wpR_next 12 (some 24)
  · simp only [List.getElem?_toArray, List.getElem?_cons_succ, List.getElem?_cons_zero]; exact rfl
  · rfl
  · kernel_rfl
  · kernel_rfl
  · kernel_rfl
  · exact fun _ _ _ _ h => h
  apply Exists.intro
  apply And.intro
  · apply yr_run; rfl; intro w' hw'; go_simp; (try with_reducible rfl)
  simp only [Act.put, List.setIfInBounds_toArray, List.set_cons_zero, List.set_cons_succ]
  apply wpR_next 13 (some 25)
  · simp only [List.getElem?_toArray, List.getElem?_cons_succ, List.getElem?_cons_zero]; exact rfl
  · rfl
  · kernel_rfl
  · kernel_rfl
  · kernel_rfl
  · exact fun _ _ _ _ h => h
  apply Exists.intro
  apply And.intro
  · apply yr_run; rfl; intro w' hw'; go_simp; (try with_reducible rfl)
  simp only [Act.put, List.setIfInBounds_toArray, List.set_cons_zero, List.set_cons_succ]
  apply wpR_next 14 (some 26)
  · simp only [List.getElem?_toArray, List.getElem?_cons_succ, List.getElem?_cons_zero]; exact rfl
  · rfl
  · kernel_rfl
  · kernel_rfl
  · kernel_rfl
  · exact fun _ _ _ _ h => h
  apply Exists.intro
  apply And.intro
  · apply yr_run; rfl; intro w' hw'; go_simp; (try with_reducible rfl)
  simp only [Act.put, List.setIfInBounds_toArray, List.set_cons_zero, List.set_cons_succ]
  apply wpR_next 15 (some 27)
  · simp only [List.getElem?_toArray, List.getElem?_cons_succ, List.getElem?_cons_zero]; exact rfl
  · rfl
  · kernel_rfl
  · kernel_rfl
  · kernel_rfl
  · exact fun _ _ _ _ h => h
  apply Exists.intro
  apply And.intro
  · apply yr_run; rfl; intro w' hw'; go_simp; (try with_reducible rfl)
  simp only [Act.put, List.setIfInBounds_toArray, List.set_cons_zero, List.set_cons_succ]
  apply wpR_next 16 (some 28)
  · simp only [List.getElem?_toArray, List.getElem?_cons_succ, List.getElem?_cons_zero]; exact rfl
  · rfl
  · kernel_rfl
  · kernel_rfl
  · kernel_rfl
  · exact fun _ _ _ _ h => h
  apply Exists.intro
  apply And.intro
  · apply yr_run; rfl; intro w' hw'; go_simp; (try with_reducible rfl)
  simp only [Act.put, List.setIfInBounds_toArray, List.set_cons_zero, List.set_cons_succ]
  apply wpR_next 17 (some 29)
  · simp only [List.getElem?_toArray, List.getElem?_cons_succ, List.getElem?_cons_zero]; exact rfl
  · rfl
  · kernel_rfl
  · kernel_rfl
  · kernel_rfl
  · exact fun _ _ _ _ h => h
  apply Exists.intro
  apply And.intro
  · apply yr_run; rfl; intro w' hw'; go_simp; (try with_reducible rfl)
  simp only [Act.put, List.setIfInBounds_toArray, List.set_cons_zero, List.set_cons_succ]
  apply wpR_next 18 (some 30)
  · simp only [List.getElem?_toArray, List.getElem?_cons_succ, List.getElem?_cons_zero]; exact rfl
  · rfl
  · kernel_rfl
  · kernel_rfl
  · kernel_rfl
  · exact fun _ _ _ _ h => h
  apply Exists.intro
  apply And.intro
  · apply yr_run; rfl; intro w' hw'; go_simp; (try with_reducible rfl)
  simp only [Act.put, List.setIfInBounds_toArray, List.set_cons_zero, List.set_cons_succ]
  refine wpR_done (by kernel_rfl) ?_ _
  intro W7 hw7
  have HB7 : RowKit.Hid (Below w.heap.size w W7) := Lib.hid (((Below.refl w.heap.size w).drew).trans (hw7.mono (Nat.le_refl _)))
  clear hw7 ld0 ld1
  go_wp2
  refine bodyPost_ret (v := .tuple #[.slice none 0 0, .int .i64 22]) (by simp [results, Try.results30, go_sem]) rfl ⟨rfl, HB7.out⟩
set_option maxRecDepth 100000 in
set_option maxHeartbeats 4000000 in
theorem take2_in {g win got c : Nat} {QL : List HE} {A : Option Addr} (w : World) (h : QrIn w g win got QL A c) (hg : got ≤ 100000) (hwin : win ≤ 64) (hQ : QL.length ≤ 100) (s : Nat) (hs : got < s) (hsw : s ≤ got + win) (A1 : Option Addr) (c1 : Nat) (L : List Nat) (hr : RdS w w.heap.size 1 A1 L.length c1 (rowsV f8 L)) (h256 : ∀ b ∈ L, b < 256) (h60 : L.length ≤ 60) :
    Calls Try.prog 30 #[.pointer (some ⟨g, 0, none⟩), .int .i64 (s : Int), .slice A1 L.length c1] w fun e w' => ((∃ y ∈ QL, y.1 = s) ∧ e = .returned (.tuple #[.slice none 0 0, .int .i64 22]) ∧ Below w.heap.size w w') ∨ ((∀ y ∈ QL, y.1 ≠ s) ∧ QTaken w g win got QL s L e w') := by
  obtain ⟨x, gx⟩ : ∃ x : Int, (s : Int) = x := ⟨_, rfl⟩
  have ld0 : ∀ w', Kept Nil_ w.drew w' → w'.cell? ⟨g, 0, none⟩ = some (.int .i64 (win : Int)) := fun w' hk => hk.nil_cell (h.box.drew.cell (i := 0) rfl)
  have ld1 : ∀ w', Kept Nil_ w.drew w' → w'.cell? ⟨g, 1, none⟩ = some (.int .i64 (got : Int)) := fun w' hk => hk.nil_cell (h.box.drew.cell (i := 1) rfl)
  have hws : IntKind.i64.wrap (x - (win : Int)) = x - (win : Int) := IntWalk.i64_in _ (by omega)
  rw [← gx] at hws
  have t1 : decide ((s : Int) ≤ (got : Int)) = false := decide_eq_false (by omega)
  have t1' : ¬ s ≤ got := by omega
  have t2 : decide ((got : Int) < (s : Int) - (win : Int)) = false := decide_eq_false (by omega)
  obtain ⟨i1, hi1, hz01, hz11, hz21⟩ := info_parts_ info_u8
  obtain ⟨nQ, gnQ⟩ : ∃ z, QL.length = z := ⟨_, rfl⟩
  have H := Lib.hid h
  have GnQ := Lib.hid gnQ
  have hnQ100 : nQ ≤ 100 := by omega
  have Hr := Lib.hid hr
  have H256 := Lib.hid h256
  clear h hr h256 gx gnQ
  go_enter Try.func30, Try.ntmps30
  go_upto_region 1 with fail
  refine wp_region_reg (Nil_) (by kernel_rfl) ?_
  apply wpR_next 0 (some 12)
  · simp only [List.getElem?_toArray, List.getElem?_cons_succ, List.getElem?_cons_zero]; exact rfl
  · rfl
  · kernel_rfl
  · kernel_rfl
  · kernel_rfl
  · exact fun _ _ _ _ h => h
  apply Exists.intro
  apply And.intro
  · apply yr_run; rfl; intro w' hw'; go_simp; (try with_reducible rfl)
  simp only [Act.put, List.setIfInBounds_toArray, List.set_cons_zero, List.set_cons_succ]
  apply wpR_next 1 (some 13)
  · simp only [List.getElem?_toArray, List.getElem?_cons_succ, List.getElem?_cons_zero]; exact rfl
  · rfl
  · kernel_rfl
  · kernel_rfl
  · kernel_rfl
  · exact fun _ _ _ _ h => h
  apply Exists.intro
  apply And.intro
  · apply yr_run; rfl; intro w' hw'; go_simp; (try with_reducible rfl)
  simp only [Act.put, List.setIfInBounds_toArray, List.set_cons_zero, List.set_cons_succ]
  apply wpR_next 2 (some 14)
  · simp only [List.getElem?_toArray, List.getElem?_cons_succ, List.getElem?_cons_zero]; exact rfl
  · rfl
  · kernel_rfl
  · kernel_rfl
  · kernel_rfl
  · exact fun _ _ _ _ h => h
  apply Exists.intro
  apply And.intro
  · apply yr_run; rfl; intro w' hw'; go_simp; (try with_reducible rfl)
  simp only [Act.put, List.setIfInBounds_toArray, List.set_cons_zero, List.set_cons_succ]
  apply wpR_next 3 (some 15)
  · simp only [List.getElem?_toArray, List.getElem?_cons_succ, List.getElem?_cons_zero]; exact rfl
  · rfl
  · kernel_rfl
  · kernel_rfl
  · kernel_rfl
  · exact fun _ _ _ _ h => h
  apply Exists.intro
  apply And.intro
  · apply yr_run; rfl; intro w' hw'; go_simp; (try with_reducible rfl)
  simp only [Act.put, List.setIfInBounds_toArray, List.set_cons_zero, List.set_cons_succ]
  apply wpR_next 4 (some 16)
  · simp only [List.getElem?_toArray, List.getElem?_cons_succ, List.getElem?_cons_zero]; exact rfl
  · rfl
  · kernel_rfl
  · kernel_rfl
  · kernel_rfl
  · exact fun _ _ _ _ h => h
  apply Exists.intro
  apply And.intro
  · apply yr_run; rfl; intro w' hw'; go_simp; (try with_reducible rfl)
  simp only [Act.put, List.setIfInBounds_toArray, List.set_cons_zero, List.set_cons_succ]
  apply wpR_next 5 (some 17)
  · simp only [List.getElem?_toArray, List.getElem?_cons_succ, List.getElem?_cons_zero]; exact rfl
  · rfl
  · kernel_rfl
  · kernel_rfl
  · kernel_rfl
  · exact fun _ _ _ _ h => h
  apply Exists.intro
  apply And.intro
  · apply yr_run; rfl; intro w' hw'; go_simp; (try with_reducible rfl)
  simp only [Act.put, List.setIfInBounds_toArray, List.set_cons_zero, List.set_cons_succ]
  apply wpR_next 6 (some 18)
  · simp only [List.getElem?_toArray, List.getElem?_cons_succ, List.getElem?_cons_zero]; exact rfl
  · rfl
  · kernel_rfl
  · kernel_rfl
  · kernel_rfl
  · exact fun _ _ _ _ h => h
  apply Exists.intro
  apply And.intro
  · apply yr_run; rfl; intro w' hw'; go_simp; (try with_reducible rfl)
  simp only [Act.put, List.setIfInBounds_toArray, List.set_cons_zero, List.set_cons_succ]
  apply wpR_next 7 (some 19)
  · simp only [List.getElem?_toArray, List.getElem?_cons_succ, List.getElem?_cons_zero]; exact rfl
  · rfl
  · kernel_rfl
  · kernel_rfl
  · kernel_rfl
  · exact fun _ _ _ _ h => h
  apply Exists.intro
  apply And.intro
  · apply yr_run; rfl; intro w' hw'; go_simp; (try with_reducible rfl)
  simp only [Act.put, List.setIfInBounds_toArray, List.set_cons_zero, List.set_cons_succ]
  apply wpR_next 8 (some 20)
  · simp only [List.getElem?_toArray, List.getElem?_cons_succ, List.getElem?_cons_zero]; exact rfl
  · rfl
  · kernel_rfl
  · kernel_rfl
  · kernel_rfl
  · exact fun _ _ _ _ h => h
  apply Exists.intro
  apply And.intro
  · apply yr_run; rfl; intro w' hw'; go_simp; (try with_reducible rfl)
  simp only [Act.put, List.setIfInBounds_toArray, List.set_cons_zero, List.set_cons_succ]
  apply wpR_next 9 (some 21)
  · simp only [List.getElem?_toArray, List.getElem?_cons_succ, List.getElem?_cons_zero]; exact rfl
  · rfl
  · kernel_rfl
  · kernel_rfl
  · kernel_rfl
  · exact fun _ _ _ _ h => h
  apply Exists.intro
  apply And.intro
  · apply yr_run; rfl; intro w' hw'; go_simp; (try with_reducible rfl)
  simp only [Act.put, List.setIfInBounds_toArray, List.set_cons_zero, List.set_cons_succ]
  apply wpR_next 10 (some 22)
  · simp only [List.getElem?_toArray, List.getElem?_cons_succ, List.getElem?_cons_zero]; exact rfl
  · rfl
  · kernel_rfl
  · kernel_rfl
  · kernel_rfl
  · exact fun _ _ _ _ h => h
  apply Exists.intro
  apply And.intro
  · apply yr_run; rfl; intro w' hw'; go_simp; (try with_reducible rfl)
  simp only [Act.put, List.setIfInBounds_toArray, List.set_cons_zero, List.set_cons_succ]
  apply wpR_next 11 (some 23)
  · simp only [List.getElem?_toArray, List.getElem?_cons_succ, List.getElem?_cons_zero]; exact rfl
  · rfl
  · kernel_rfl
  · kernel_rfl
  · kernel_rfl
  · exact fun _ _ _ _ h => h
  apply Exists.intro
  apply And.intro
  · apply yr_run; rfl; intro w' hw'; go_simp; (try with_reducible rfl)
  simp only [Act.put, List.setIfInBounds_toArray, List.set_cons_zero, List.set_cons_succ]
  apply wpR_next 12 (some 24)
  · simp only [List.getElem?_toArray, List.getElem?_cons_succ, List.getElem?_cons_zero]; exact rfl
  · rfl
  · kernel_rfl
  · kernel_rfl
  · kernel_rfl
  · exact fun _ _ _ _ h => h
  apply Exists.intro
  apply And.intro
  · apply yr_run; rfl; intro w' hw'; go_simp; (try with_reducible rfl)
  simp only [Act.put, List.setIfInBounds_toArray, List.set_cons_zero, List.set_cons_succ]
  apply wpR_next 13 (some 25)
  · simp only [List.getElem?_toArray, List.getElem?_cons_succ, List.getElem?_cons_zero]; exact rfl
  · rfl
  · kernel_rfl
  · kernel_rfl
  · kernel_rfl
  · exact fun _ _ _ _ h => h
  apply Exists.intro
  apply And.intro
  · apply yr_run; rfl; intro w' hw'; go_simp; (try with_reducible rfl)
  simp only [Act.put, List.setIfInBounds_toArray, List.set_cons_zero, List.set_cons_succ]
  apply wpR_next 14 (some 26)
  · simp only [List.getElem?_toArray, List.getElem?_cons_succ, List.getElem?_cons_zero]; exact rfl
  · rfl
  · kernel_rfl
  · kernel_rfl
  · kernel_rfl
  · exact fun _ _ _ _ h => h
  apply Exists.intro
  apply And.intro
  · apply yr_run; rfl; intro w' hw'; go_simp; (try with_reducible rfl)
  simp only [Act.put, List.setIfInBounds_toArray, List.set_cons_zero, List.set_cons_succ]
  apply wpR_next 15 (some 27)
  · simp only [List.getElem?_toArray, List.getElem?_cons_succ, List.getElem?_cons_zero]; exact rfl
  · rfl
  · kernel_rfl
  · kernel_rfl
  · kernel_rfl
  · exact fun _ _ _ _ h => h
  apply Exists.intro
  apply And.intro
  · apply yr_run; rfl; intro w' hw'; go_simp; (try with_reducible rfl)
  simp only [Act.put, List.setIfInBounds_toArray, List.set_cons_zero, List.set_cons_succ]
  apply wpR_next 16 (some 28)
  · simp only [List.getElem?_toArray, List.getElem?_cons_succ, List.getElem?_cons_zero]; exact rfl
  · rfl
  · kernel_rfl
  · kernel_rfl
  · kernel_rfl
  · exact fun _ _ _ _ h => h
  apply Exists.intro
  apply And.intro
  · apply yr_run; rfl; intro w' hw'; go_simp; (try with_reducible rfl)
  simp only [Act.put, List.setIfInBounds_toArray, List.set_cons_zero, List.set_cons_succ]
  apply wpR_next 17 (some 29)
  · simp only [List.getElem?_toArray, List.getElem?_cons_succ, List.getElem?_cons_zero]; exact rfl
  · rfl
  · kernel_rfl
  · kernel_rfl
  · kernel_rfl
  · exact fun _ _ _ _ h => h
  apply Exists.intro
  apply And.intro
  · apply yr_run; rfl; intro w' hw'; go_simp; (try with_reducible rfl)
  simp only [Act.put, List.setIfInBounds_toArray, List.set_cons_zero, List.set_cons_succ]
  apply wpR_next 18 (some 30)
  · simp only [List.getElem?_toArray, List.getElem?_cons_succ, List.getElem?_cons_zero]; exact rfl
  · rfl
  · kernel_rfl
  · kernel_rfl
  · kernel_rfl
  · exact fun _ _ _ _ h => h
  apply Exists.intro
  apply And.intro
  · apply yr_run; rfl; intro w' hw'; go_simp; (try with_reducible rfl)
  simp only [Act.put, List.setIfInBounds_toArray, List.set_cons_zero, List.set_cons_succ]
  refine wpR_done (by kernel_rfl) ?_ _
  intro W1 hw1
  have HX1 : RowKit.Hid (Ext w W1) := Lib.hid (Ext.trans ((Below.refl _ _).drew) hw1)
  have HN0 : RowKit.Hid (NxIn w (W1.alloc (.cells #[] 70)) QL s 0 L false (.slice (some ⟨W1.heap.size, 0, none⟩) 0 0) [] (none, 0, 0)) := Lib.hid ⟨Ow.new_ (cs := #[]) HX1.out (Nat.le_refl _) HX1.out.size (Nat.zero_le _) rfl, by simp, fun _ e he => (by simp at he), fun h => (by cases h), fun e he => (by simp at he)⟩
  clear hw1 ld0 ld1 hws t1 t1' t2
  go_wp2
  obtain ⟨W3, gW3⟩ : ∃ z, W1.alloc (.cells #[] 70) = z := ⟨_, rfl⟩
  obtain ⟨g3, gg3⟩ : ∃ z, W1.heap.size = z := ⟨_, rfl⟩
  rw [gW3, gg3] at HN0
  rw [gW3, gg3]
  clear gW3 gg3 HX1
  go_loopw [8, 9, 10] (fun sn sp si wr => ∃ (i : Nat) (put : Bool) (NL : List HE) (sl : Sl), i ≤ nQ ∧ si = .int .i64 i ∧ sp = .bool put ∧ RowKit.Hid (NxIn w wr QL s i L put sn NL sl)) (fun _ _ si _ => nQ - (intOf si).toNat)
  case atStart => exact ⟨0, false, [], _, Nat.zero_le _, rfl, rfl, HN0⟩
  case round =>
    clear HN0
    obtain ⟨i, put, NL, sl, hi, rfl, rfl, HN⟩ := hrel
    obtain ⟨An, cn, rfl, -⟩ := HN.out.ow.rds
    have lbx := (H.out.box.below HN.out.ow.below).cell (i := 2) rfl
    rw [GnQ.out] at lbx
    by_cases hin : i < nQ
    · obtain ⟨y, hy⟩ : ∃ y, QL[i]? = some y := ⟨_, List.getElem?_eq_getElem (by have := GnQ.out; omega)⟩
      have hrow := H.out.row
      rw [GnQ.out] at hrow
      obtain ⟨b1, o1, gA, hb1, hp1⟩ := hrow.place hC_len (by decide) (by omega)
      have x0 := hp1 i y hy 0 _ rfl
      have x1 := hp1 i y hy 1 _ rfl
      rw [Addr.add_lit] at x0 x1
      simp only [Nat.add_zero] at x0
      subst gA
      have l0 := (HN.out.ow.below.cell (p := ⟨b1, o1 + i * 2, none⟩) hb1).trans x0
      have l1 := (HN.out.ow.below.cell (p := ⟨b1, o1 + i * 2 + 1, none⟩) hb1).trans x1
      have Hyy := Lib.hid hy
      clear hrow hp1 x0 x1 hy
      by_cases hys : y.1 = s
      · have e0 : ((y.1 : Int) == (s : Int)) = true := beq_iff_eq.2 (by omega)
        have e0' : y.1 = s := hys
        go_wp2
        refine bodyPost_ret (v := .tuple #[.slice none 0 0, .int .i64 22]) (by simp [results, Try.results30, go_sem]) rfl (.inl ⟨⟨y, List.mem_of_getElem? Hyy.out, hys⟩, rfl, HN.out.ow.below⟩)
      · have e0 : ((y.1 : Int) == (s : Int)) = false := beq_eq_false_iff_ne.2 (by omega)
        have e0' : ¬ (y.1 = s) := hys
        by_cases hp : put = true ∨ y.1 < s
        · obtain ⟨v', W', hrun, hN'⟩ := HN.out.over (by have := GnQ.out; omega) Hyy.out hys hp 55
          obtain ⟨A', c', rfl, -⟩ := hN'.ow.rds
          rw [show (NL ++ [y]).length = NL.length + 1 by rw [List.length_append]; rfl] at hrun hN'
          have Hrun := Lib.hid hrun
          have HN' := Lib.hid hN'
          clear hrun hN' hys HN
          cases put with
          | true =>
            go_wp2_with (first
              | (at_builtin
                 refine wpList_app rfl (.tmp 73) (.tmp 81) _ rfl rfl rfl Hrun.out ?_))
            go_roundw
            case rel => exact ⟨i + 1, true, _, _, by omega, by go_num, rfl, HN'⟩
            case measure => simp [intOf]; omega
          | false =>
            have hlt : y.1 < s := by rcases hp with hp | hp; cases hp; exact hp
            have e1 : decide ((s : Int) < (y.1 : Int)) = false := decide_eq_false (by omega)
            have e1' : ¬ (s < y.1) := by omega
            clear hp
            go_wp2_with (first
              | (at_builtin
                 refine wpList_app rfl (.tmp 73) (.tmp 81) _ rfl rfl rfl Hrun.out ?_))
            go_roundw
            case rel => exact ⟨i + 1, false, _, _, by omega, by go_num, rfl, HN'⟩
            case measure => simp [intOf]; omega
        · have hpf : put = false := by
            cases put with
            | false => rfl
            | true => exact absurd (.inl rfl) hp
          subst hpf
          have hlt : s < y.1 := by omega
          have e1 : decide ((s : Int) < (y.1 : Int)) = true := decide_eq_true (by omega)
          have e1' : s < y.1 := hlt
          clear hp hys
          have HRb := Lib.hid ((Hr.out.up HN.out.ow.below HN.out.ow.below.size).al (.cells #[] 5))
          go_upto_region 11 with fail
          clear l0 l1 lbx
          go_upto_region 12 with (first
            | (at_builtin
               refine wpList_push2 rfl (.tmp 67) (.tmp 68) _ rfl _ 5 i1 _ 1 1 Try.underlying32 hi1 hz01 hz11 hz21 rfl (by decide) _ _ _ rfl (Ow.new_ (cs := #[]) (Below.refl _ _) (Nat.le_refl _) (Nat.le_refl _) (Nat.zero_le _) rfl) _ _ _ _ _ rfl HRb.out (f8_all _) (by unfold maxLen; omega) (by omega) ?_
               intro v1 w4 how1 hb4 hgr
               rw [Nat.zero_add, List.nil_append] at how1
               obtain ⟨Ap, cp, rfl, hr4⟩ := how1.rds
               have HPt := Lib.hid (HN.out.putting (sl2 := (Ap, L.length, cp)) (by have := GnQ.out; omega) Hyy.out hlt how1.below ⟨rfl, hr4, H256.out, h60⟩ (fun b hb a ha h0 e' => by
                 obtain rfl : Ap = some a := ha
                 have := (how1.own.lt a.block rfl).1
                 omega) 55)
               clear how1 hb4 hgr hr4)
            | (at_builtin
               obtain ⟨v1, W1', hrun1, v', W', hrun, hbl1, hN'⟩ := HPt.out
               obtain ⟨A', c', rfl, -⟩ := hN'.ow.rds
               refine wpList_app rfl (.tmp 65) (.tmp 71) _ rfl rfl rfl hrun1 ?_
               have Hbl1 := Lib.hid hbl1
               have Hrun := Lib.hid hrun
               have HN' := Lib.hid hN'
               clear hrun1 hrun hN' hbl1 HPt))
          have lbx := (H.out.box.below Hbl1.out).cell (i := 2) rfl
          rw [GnQ.out] at lbx
          have hrow := H.out.row
          rw [GnQ.out] at hrow
          have q0 := (hrow.elem hC_len Hyy.out) 0 _ rfl
          have q1 := (hrow.elem hC_len Hyy.out) 1 _ rfl
          rw [Addr.add_lit] at q0 q1
          simp only [Nat.add_zero] at q0
          have l0 := (Hbl1.out.cell (p := ⟨b1, o1 + i * 2, none⟩) hb1).trans q0
          have l1 := (Hbl1.out.cell (p := ⟨b1, o1 + i * 2 + 1, none⟩) hb1).trans q1
          clear hrow q0 q1
          rw [show (NL ++ [(s, ((Ap, L.length, cp) : Sl), L)] ++ [y]).length = NL.length + 1 + 1 by rw [List.length_append, List.length_append]; rfl] at HN' Hrun
          go_wp2_with (first
            | (at_builtin
               refine wpList_app rfl (.tmp 73) (.tmp 81) _ rfl rfl rfl Hrun.out ?_))
          go_roundw
          case rel => exact ⟨i + 1, true, _, _, by omega, by go_num, rfl, HN'⟩
          case measure => simp [intOf]; omega
    · obtain rfl : nQ = i := by omega
      go_upto_if 84 with fail
      clear lbx
      go_cut [8] (fun sn z => ∃ (A' : Option Addr) (n' c' : Nat) (NL' : List HE) (sl' : Sl), sn = .slice A' n' c' ∧ n' = NL'.length ∧ RowKit.Hid (FuIn w z QL s L A' c' NL' sl'))
      case first =>
        cases put with
        | true =>
          have HF := Lib.hid (FuIn.of_put HN.out (by have := GnQ.out; omega))
          go_wp2_with fail
          go_meet
          exact ⟨An, _, cn, NL, sl, rfl, rfl, HF⟩
        | false =>
          have HRb := Lib.hid ((Hr.out.up HN.out.ow.below HN.out.ow.below.size).al (.cells #[] 5))
          go_wp2_with (first
            | (at_builtin
               refine wpList_push2 rfl (.tmp 87) (.tmp 88) _ rfl _ 5 i1 _ 1 1 Try.underlying32 hi1 hz01 hz11 hz21 rfl (by decide) _ _ _ rfl (Ow.new_ (cs := #[]) (Below.refl _ _) (Nat.le_refl _) (Nat.le_refl _) (Nat.zero_le _) rfl) _ _ _ _ _ rfl HRb.out (f8_all _) (by unfold maxLen; omega) (by omega) ?_
               intro v1 w4 how1 hb4 hgr
               rw [Nat.zero_add, List.nil_append] at how1
               obtain ⟨Ap, cp, rfl, hr4⟩ := how1.rds
               have HPt := Lib.hid (FuIn.of_end HN.out (sl2 := (Ap, L.length, cp)) (by have := GnQ.out; omega) (by have := GnQ.out; omega) how1.below ⟨rfl, hr4, H256.out, h60⟩ (fun b hb a ha h0 e' => by
                 obtain rfl : Ap = some a := ha
                 have := (how1.own.lt a.block rfl).1
                 omega) 55)
               clear how1 hb4 hgr hr4)
            | (at_builtin
               obtain ⟨A9, n9, c9, W9, hrun9, hn9, hF9⟩ := HPt.out
               refine wpList_app rfl (.tmp 85) (.tmp 91) _ rfl rfl rfl hrun9 ?_
               have HF9 := Lib.hid hF9
               have Hn9 := Lib.hid hn9
               clear hrun9 hF9 hn9 HPt))
          go_meet
          exact ⟨A9, n9, c9, _, _, rfl, Hn9.out, HF9⟩
      case rest =>
        obtain ⟨A', n', c', NL', sl', rfl, hn', HF⟩ := hcut
        have hD0 := DrIn.first H.out HF.out hs
        have HD0 := Lib.hid hD0
        have Hfr := Lib.hid HF.out.fresh
        have Hns := Lib.hid HF.out.ns
        have HNe := Lib.hid HF.out.eq
        have hNL := HD0.out.many
        have hN65 : NL'.length ≤ 500 := by
          have h3 : ∀ (l : List HE) (x : HE), (insH x l).length = l.length + 1 := fun l => by
            induction l with
            | nil => intro x; rfl
            | cons e r ih => intro x; unfold insH; split <;> simp [ih]
          rw [HF.out.eq, h3]
          have := GnQ.out
          omega
        have Hn' := Lib.hid hn'
        clear hD0 hn' HN HF hNL
        go_wp2
        obtain ⟨W3, gW3⟩ : ∃ z, wc.alloc (.cells #[] 32) = z := ⟨_, rfl⟩
        obtain ⟨g3, gg3⟩ : ∃ z, wc.heap.size = z := ⟨_, rfl⟩
        rw [gW3, gg3] at HD0
        rw [gW3, gg3]
        clear gW3 gg3
        go_loopw [8, 11] (fun sn so wr => ∃ (A2 : Option Addr) (m c2 : Nat) (T NL : List HE), sn = .slice A2 m c2 ∧ m = NL.length ∧ RowKit.Hid (DrIn w wr g win got NL' (.slice A QL.length c) so A2 c2 T NL)) (fun sn _ _ => lenOf sn)
        case atStart => exact ⟨A', n', c', [], NL', rfl, Hn'.out, HD0⟩
        case round =>
          clear HD0
          obtain ⟨A2, m, c2, T, NL, rfl, hm, HD⟩ := hrel
          obtain ⟨Ao, co, rfl, -⟩ := RdS.of_own HD.out.own
          have hmany := HD.out.many
          obtain ⟨G, gG⟩ : ∃ G, got + T.length = G := ⟨_, rfl⟩
          have GG := Lib.hid gG
          have hwG : IntKind.i64.wrap ((G : Int) + 1) = (G : Int) + 1 := IntWalk.i64_in _ (by omega)
          have hbox := HD.out.box
          rw [gG] at hbox
          have HBx := Lib.hid hbox
          have ldg : ∀ w', Kept Nil_ wr.drew w' → w'.cell? ⟨g, 1, none⟩ = some (.int .i64 (G : Int)) := fun w' hk => hk.nil_cell (HBx.out.drew.cell (i := 1) rfl)
          have Hm := Lib.hid hm
          clear hbox gG
          cases NL with
          | nil =>
            obtain rfl : m = 0 := hm
            go_upto_region 17 with fail
            refine wp_region_reg (Nil_) (by kernel_rfl) ?_
            apply wpR_next 0 (some 94)
            · simp only [List.getElem?_toArray, List.getElem?_cons_succ, List.getElem?_cons_zero]; exact rfl
            · rfl
            · kernel_rfl
            · kernel_rfl
            · kernel_rfl
            · exact fun _ _ _ _ h => h
            apply Exists.intro
            apply And.intro
            · apply yr_run; rfl; intro w' hw'; go_simp; (try with_reducible rfl)
            simp only [Act.put, List.setIfInBounds_toArray, List.set_cons_zero, List.set_cons_succ]
            apply wpR_next 1 (some 95)
            · simp only [List.getElem?_toArray, List.getElem?_cons_succ, List.getElem?_cons_zero]; exact rfl
            · rfl
            · kernel_rfl
            · kernel_rfl
            · kernel_rfl
            · exact fun _ _ _ _ h => h
            apply Exists.intro
            apply And.intro
            · apply yr_run; rfl; intro w' hw'; go_simp; (try with_reducible rfl)
            simp only [Act.put, List.setIfInBounds_toArray, List.set_cons_zero, List.set_cons_succ]
            apply wpR_next 2 (some 96)
            · simp only [List.getElem?_toArray, List.getElem?_cons_succ, List.getElem?_cons_zero]; exact rfl
            · rfl
            · kernel_rfl
            · kernel_rfl
            · kernel_rfl
            · exact fun _ _ _ _ h => h
            apply Exists.intro
            apply And.intro
            · apply yr_run; rfl; intro w' hw'; go_simp; (try with_reducible rfl)
            simp only [Act.put, List.setIfInBounds_toArray, List.set_cons_zero, List.set_cons_succ]
            apply wpR_next 3 (some 97)
            · simp only [List.getElem?_toArray, List.getElem?_cons_succ, List.getElem?_cons_zero]; exact rfl
            · rfl
            · kernel_rfl
            · kernel_rfl
            · kernel_rfl
            · exact fun _ _ _ _ h => h
            apply Exists.intro
            apply And.intro
            · apply yr_run; rfl; intro w' hw'; go_simp; (try with_reducible rfl)
            simp only [Act.put, List.setIfInBounds_toArray, List.set_cons_zero, List.set_cons_succ]
            apply wpR_next 4 (some 98)
            · simp only [List.getElem?_toArray, List.getElem?_cons_succ, List.getElem?_cons_zero]; exact rfl
            · rfl
            · kernel_rfl
            · kernel_rfl
            · kernel_rfl
            · exact fun _ _ _ _ h => h
            apply Exists.intro
            apply And.intro
            · exact yr_skip (by rfl)
            simp only [Act.put, List.setIfInBounds_toArray, List.set_cons_zero, List.set_cons_succ]
            apply wpR_next 5 (some 99)
            · simp only [List.getElem?_toArray, List.getElem?_cons_succ, List.getElem?_cons_zero]; exact rfl
            · rfl
            · kernel_rfl
            · kernel_rfl
            · kernel_rfl
            · exact fun _ _ _ _ h => h
            apply Exists.intro
            apply And.intro
            · exact yr_skip (by rfl)
            simp only [Act.put, List.setIfInBounds_toArray, List.set_cons_zero, List.set_cons_succ]
            apply wpR_next 6 (some 100)
            · simp only [List.getElem?_toArray, List.getElem?_cons_succ, List.getElem?_cons_zero]; exact rfl
            · rfl
            · kernel_rfl
            · kernel_rfl
            · kernel_rfl
            · exact fun _ _ _ _ h => h
            apply Exists.intro
            apply And.intro
            · exact yr_skip (by rfl)
            simp only [Act.put, List.setIfInBounds_toArray, List.set_cons_zero, List.set_cons_succ]
            apply wpR_next 7 (some 101)
            · simp only [List.getElem?_toArray, List.getElem?_cons_succ, List.getElem?_cons_zero]; exact rfl
            · rfl
            · kernel_rfl
            · kernel_rfl
            · kernel_rfl
            · exact fun _ _ _ _ h => h
            apply Exists.intro
            apply And.intro
            · exact yr_skip (by rfl)
            simp only [Act.put, List.setIfInBounds_toArray, List.set_cons_zero, List.set_cons_succ]
            apply wpR_next 8 (some 102)
            · simp only [List.getElem?_toArray, List.getElem?_cons_succ, List.getElem?_cons_zero]; exact rfl
            · rfl
            · kernel_rfl
            · kernel_rfl
            · kernel_rfl
            · exact fun _ _ _ _ h => h
            apply Exists.intro
            apply And.intro
            · exact yr_skip (by rfl)
            simp only [Act.put, List.setIfInBounds_toArray, List.set_cons_zero, List.set_cons_succ]
            apply wpR_next 9 (some 103)
            · simp only [List.getElem?_toArray, List.getElem?_cons_succ, List.getElem?_cons_zero]; exact rfl
            · rfl
            · kernel_rfl
            · kernel_rfl
            · kernel_rfl
            · exact fun _ _ _ _ h => h
            apply Exists.intro
            apply And.intro
            · exact yr_skip (by rfl)
            simp only [Act.put, List.setIfInBounds_toArray, List.set_cons_zero, List.set_cons_succ]
            apply wpR_next 10 (some 104)
            · simp only [List.getElem?_toArray, List.getElem?_cons_succ, List.getElem?_cons_zero]; exact rfl
            · rfl
            · kernel_rfl
            · kernel_rfl
            · kernel_rfl
            · exact fun _ _ _ _ h => h
            apply Exists.intro
            apply And.intro
            · exact yr_skip (by rfl)
            simp only [Act.put, List.setIfInBounds_toArray, List.set_cons_zero, List.set_cons_succ]
            apply wpR_next 11 (some 105)
            · simp only [List.getElem?_toArray, List.getElem?_cons_succ, List.getElem?_cons_zero]; exact rfl
            · rfl
            · kernel_rfl
            · kernel_rfl
            · kernel_rfl
            · exact fun _ _ _ _ h => h
            apply Exists.intro
            apply And.intro
            · exact yr_skip (by rfl)
            simp only [Act.put, List.setIfInBounds_toArray, List.set_cons_zero, List.set_cons_succ]
            apply wpR_next 12 (some 106)
            · simp only [List.getElem?_toArray, List.getElem?_cons_succ, List.getElem?_cons_zero]; exact rfl
            · rfl
            · kernel_rfl
            · kernel_rfl
            · kernel_rfl
            · exact fun _ _ _ _ h => h
            apply Exists.intro
            apply And.intro
            · exact yr_skip (by rfl)
            simp only [Act.put, List.setIfInBounds_toArray, List.set_cons_zero, List.set_cons_succ]
            apply wpR_next 13 (some 107)
            · simp only [List.getElem?_toArray, List.getElem?_cons_succ, List.getElem?_cons_zero]; exact rfl
            · rfl
            · kernel_rfl
            · kernel_rfl
            · kernel_rfl
            · exact fun _ _ _ _ h => h
            apply Exists.intro
            apply And.intro
            · exact yr_skip (by rfl)
            simp only [Act.put, List.setIfInBounds_toArray, List.set_cons_zero, List.set_cons_succ]
            apply wpR_next 14 (some 108)
            · simp only [List.getElem?_toArray, List.getElem?_cons_succ, List.getElem?_cons_zero]; exact rfl
            · rfl
            · kernel_rfl
            · kernel_rfl
            · kernel_rfl
            · exact fun _ _ _ _ h => h
            apply Exists.intro
            apply And.intro
            · apply yr_run; rfl; intro w' hw'; go_simp; (try with_reducible rfl)
            simp only [Act.put, List.setIfInBounds_toArray, List.set_cons_zero, List.set_cons_succ]
            refine wpR_done (by kernel_rfl) ?_ _
            intro Wa hwa
            have HXa : RowKit.Hid (Ext wr Wa) := Lib.hid (Ext.trans ((Below.refl _ _).drew) hwa)
            have HDa := Lib.hid (HD.out.down HXa.out)
            have hbxa := HBx.out.below HXa.out
            have hcl := hbxa.cell (i := 2) rfl
            have hfr := hbxa.free 2
            clear hwa ldg hbxa
            go_wp2
            refine bodyPost_ret (v := .tuple #[.slice Ao T.length co, .int .i64 0]) (by simp [results, Try.results30, go_sem]) rfl (.inr ⟨Hns.out, DrIn.done (HNe.out ▸ HDa.out) (fun e he => (by cases he)) rfl Hm.out Hfr.out⟩)
          | cons y r =>
            have hrow := HD.out.row
            rw [← Hm.out] at hrow
            obtain ⟨b1, o1, gA2, -, hp1⟩ := hrow.place hC_len (by decide) (by rw [hm]; simp)
            have x0 := hp1 0 y rfl 0 _ rfl
            have x1 := hp1 0 y rfl 1 _ rfl
            rw [Addr.add_lit] at x0 x1
            simp only [Nat.add_zero, Nat.zero_mul] at x0 x1
            subst gA2
            have hm0 : 0 < m := by rw [hm]; simp
            have d0 : decide ((0 : Int) < (m : Int)) = true := decide_eq_true (by omega)
            have ldy : ∀ w', Kept Nil_ wr.drew w' → w'.cell? ⟨b1, o1, none⟩ = some (.int .i64 (y.1 : Int)) := fun w' hk => hk.nil_cell (show wr.drew.cell? ⟨b1, o1, none⟩ = _ from x0)
            have HX1 := Lib.hid x1
            clear hrow hp1 x0 x1 hm
            by_cases hyG : y.1 = got + T.length + 1
            · have e0 : ((y.1 : Int) == (G : Int) + 1) = true := beq_iff_eq.2 (by have := GG.out; omega)
              have e0' : (y.1 : Int) = (G : Int) + 1 := by have := GG.out; omega
              obtain ⟨Y, gY⟩ : ∃ Y, y.1 = Y := ⟨_, rfl⟩
              rw [gY] at ldy e0 e0'
              clear gY
              go_upto_region 17 with fail
              refine wp_region_reg (Nil_) (by kernel_rfl) ?_
              apply wpR_next 0 (some 94)
              · simp only [List.getElem?_toArray, List.getElem?_cons_succ, List.getElem?_cons_zero]; exact rfl
              · rfl
              · kernel_rfl
              · kernel_rfl
              · kernel_rfl
              · exact fun _ _ _ _ h => h
              apply Exists.intro
              apply And.intro
              · apply yr_run; rfl; intro w' hw'; go_simp; (try with_reducible rfl)
              simp only [Act.put, List.setIfInBounds_toArray, List.set_cons_zero, List.set_cons_succ]
              apply wpR_next 1 (some 95)
              · simp only [List.getElem?_toArray, List.getElem?_cons_succ, List.getElem?_cons_zero]; exact rfl
              · rfl
              · kernel_rfl
              · kernel_rfl
              · kernel_rfl
              · exact fun _ _ _ _ h => h
              apply Exists.intro
              apply And.intro
              · apply yr_run; rfl; intro w' hw'; go_simp; (try with_reducible rfl)
              simp only [Act.put, List.setIfInBounds_toArray, List.set_cons_zero, List.set_cons_succ]
              apply wpR_next 2 (some 96)
              · simp only [List.getElem?_toArray, List.getElem?_cons_succ, List.getElem?_cons_zero]; exact rfl
              · rfl
              · kernel_rfl
              · kernel_rfl
              · kernel_rfl
              · exact fun _ _ _ _ h => h
              apply Exists.intro
              apply And.intro
              · apply yr_run; rfl; intro w' hw'; go_simp; (try with_reducible rfl)
              simp only [Act.put, List.setIfInBounds_toArray, List.set_cons_zero, List.set_cons_succ]
              apply wpR_next 3 (some 97)
              · simp only [List.getElem?_toArray, List.getElem?_cons_succ, List.getElem?_cons_zero]; exact rfl
              · rfl
              · kernel_rfl
              · kernel_rfl
              · kernel_rfl
              · exact fun _ _ _ _ h => h
              apply Exists.intro
              apply And.intro
              · apply yr_run; rfl; intro w' hw'; go_simp; (try with_reducible rfl)
              simp only [Act.put, List.setIfInBounds_toArray, List.set_cons_zero, List.set_cons_succ]
              apply wpR_next 4 (some 98)
              · simp only [List.getElem?_toArray, List.getElem?_cons_succ, List.getElem?_cons_zero]; exact rfl
              · rfl
              · kernel_rfl
              · kernel_rfl
              · kernel_rfl
              · exact fun _ _ _ _ h => h
              apply Exists.intro
              apply And.intro
              · apply yr_run; rfl; intro w' hw'; go_simp; (try with_reducible rfl)
              simp only [Act.put, List.setIfInBounds_toArray, List.set_cons_zero, List.set_cons_succ]
              apply wpR_next 5 (some 99)
              · simp only [List.getElem?_toArray, List.getElem?_cons_succ, List.getElem?_cons_zero]; exact rfl
              · rfl
              · kernel_rfl
              · kernel_rfl
              · kernel_rfl
              · exact fun _ _ _ _ h => h
              apply Exists.intro
              apply And.intro
              · apply yr_run; rfl; intro w' hw'; go_simp; (try with_reducible rfl)
              simp only [Act.put, List.setIfInBounds_toArray, List.set_cons_zero, List.set_cons_succ]
              apply wpR_next 6 (some 100)
              · simp only [List.getElem?_toArray, List.getElem?_cons_succ, List.getElem?_cons_zero]; exact rfl
              · rfl
              · kernel_rfl
              · kernel_rfl
              · kernel_rfl
              · exact fun _ _ _ _ h => h
              apply Exists.intro
              apply And.intro
              · apply yr_run; rfl; intro w' hw'; go_simp; (try with_reducible rfl)
              simp only [Act.put, List.setIfInBounds_toArray, List.set_cons_zero, List.set_cons_succ]
              apply wpR_next 7 (some 101)
              · simp only [List.getElem?_toArray, List.getElem?_cons_succ, List.getElem?_cons_zero]; exact rfl
              · rfl
              · kernel_rfl
              · kernel_rfl
              · kernel_rfl
              · exact fun _ _ _ _ h => h
              apply Exists.intro
              apply And.intro
              · apply yr_run; rfl; intro w' hw'; go_simp; (try with_reducible rfl)
              simp only [Act.put, List.setIfInBounds_toArray, List.set_cons_zero, List.set_cons_succ]
              apply wpR_next 8 (some 102)
              · simp only [List.getElem?_toArray, List.getElem?_cons_succ, List.getElem?_cons_zero]; exact rfl
              · rfl
              · kernel_rfl
              · kernel_rfl
              · kernel_rfl
              · exact fun _ _ _ _ h => h
              apply Exists.intro
              apply And.intro
              · apply yr_run; rfl; intro w' hw'; go_simp; (try with_reducible rfl)
              simp only [Act.put, List.setIfInBounds_toArray, List.set_cons_zero, List.set_cons_succ]
              apply wpR_next 9 (some 103)
              · simp only [List.getElem?_toArray, List.getElem?_cons_succ, List.getElem?_cons_zero]; exact rfl
              · rfl
              · kernel_rfl
              · kernel_rfl
              · kernel_rfl
              · exact fun _ _ _ _ h => h
              apply Exists.intro
              apply And.intro
              · apply yr_run; rfl; intro w' hw'; go_simp; (try with_reducible rfl)
              simp only [Act.put, List.setIfInBounds_toArray, List.set_cons_zero, List.set_cons_succ]
              apply wpR_next 10 (some 104)
              · simp only [List.getElem?_toArray, List.getElem?_cons_succ, List.getElem?_cons_zero]; exact rfl
              · rfl
              · kernel_rfl
              · kernel_rfl
              · kernel_rfl
              · exact fun _ _ _ _ h => h
              apply Exists.intro
              apply And.intro
              · apply yr_run; rfl; intro w' hw'; go_simp; (try with_reducible rfl)
              simp only [Act.put, List.setIfInBounds_toArray, List.set_cons_zero, List.set_cons_succ]
              apply wpR_next 11 (some 105)
              · simp only [List.getElem?_toArray, List.getElem?_cons_succ, List.getElem?_cons_zero]; exact rfl
              · rfl
              · kernel_rfl
              · kernel_rfl
              · kernel_rfl
              · exact fun _ _ _ _ h => h
              apply Exists.intro
              apply And.intro
              · apply yr_run; rfl; intro w' hw'; go_simp; (try with_reducible rfl)
              simp only [Act.put, List.setIfInBounds_toArray, List.set_cons_zero, List.set_cons_succ]
              apply wpR_next 12 (some 106)
              · simp only [List.getElem?_toArray, List.getElem?_cons_succ, List.getElem?_cons_zero]; exact rfl
              · rfl
              · kernel_rfl
              · kernel_rfl
              · kernel_rfl
              · exact fun _ _ _ _ h => h
              apply Exists.intro
              apply And.intro
              · apply yr_run; rfl; intro w' hw'; go_simp; (try with_reducible rfl)
              simp only [Act.put, List.setIfInBounds_toArray, List.set_cons_zero, List.set_cons_succ]
              apply wpR_next 13 (some 107)
              · simp only [List.getElem?_toArray, List.getElem?_cons_succ, List.getElem?_cons_zero]; exact rfl
              · rfl
              · kernel_rfl
              · kernel_rfl
              · kernel_rfl
              · exact fun _ _ _ _ h => h
              apply Exists.intro
              apply And.intro
              · apply yr_run; rfl; intro w' hw'; go_simp; (try with_reducible rfl)
              simp only [Act.put, List.setIfInBounds_toArray, List.set_cons_zero, List.set_cons_succ]
              apply wpR_next 14 (some 108)
              · simp only [List.getElem?_toArray, List.getElem?_cons_succ, List.getElem?_cons_zero]; exact rfl
              · rfl
              · kernel_rfl
              · kernel_rfl
              · kernel_rfl
              · exact fun _ _ _ _ h => h
              apply Exists.intro
              apply And.intro
              · apply yr_run; rfl; intro w' hw'; go_simp; (try with_reducible rfl)
              simp only [Act.put, List.setIfInBounds_toArray, List.set_cons_zero, List.set_cons_succ]
              refine wpR_done (by kernel_rfl) ?_ _
              intro Wa hwa
              have HXa : RowKit.Hid (Ext wr Wa) := Lib.hid (Ext.trans ((Below.refl _ _).drew) hwa)
              have lx1 : Wa.cell? ⟨b1, o1 + 1, none⟩ = some (.slice y.2.1.1 y.2.1.2.1 y.2.1.2.2) := HXa.out.cell HX1.out
              obtain ⟨v', W1, hrun, hbx1, hD'⟩ := HD.out.next (by omega) hyG HXa.out 34
              obtain ⟨Ao', co', rfl, -⟩ := RdS.of_own hD'.own
              rw [show (T ++ [y]).length = T.length + 1 by rw [List.length_append]; rfl] at hrun hD'
              obtain ⟨yA, gyA⟩ : ∃ z, y.2.1.1 = z := ⟨_, rfl⟩
              obtain ⟨yn, gyn⟩ : ∃ z, y.2.1.2.1 = z := ⟨_, rfl⟩
              obtain ⟨yc, gyc⟩ : ∃ z, y.2.1.2.2 = z := ⟨_, rfl⟩
              rw [gyA, gyn, gyc] at hrun lx1
              obtain ⟨A3, gA3⟩ : ∃ z, (if c2 = 1 then (some (⟨b1, o1, none⟩ : Addr)) else (some (⟨b1, o1, none⟩ : Addr)).map (·.add (1 * 2))) = z := ⟨_, rfl⟩
              obtain ⟨c3, gc3⟩ : ∃ z, c2 - 1 = z := ⟨_, rfl⟩
              rw [gA3, gc3, GG.out] at hD'
              rw [GG.out] at hbx1
              have hm1 : m - 1 = r.length := by rw [Hm.out]; simp
              obtain ⟨m1, gm1⟩ : ∃ z, m - 1 = z := ⟨_, rfl⟩
              have Hrun := Lib.hid hrun
              have HD' := Lib.hid hD'
              have GA3 := Lib.hid gA3
              have Gc3 := Lib.hid gc3
              have Gm1 := Lib.hid gm1
              have Hm1 : RowKit.Hid (m1 = r.length) := Lib.hid (by rw [← gm1]; exact hm1)
              have hm1lt : m1 < m := by omega
              have hk1 : 1 ≤ m := hm0
              have hcl := hbx1.cell (i := 1) rfl
              have hfr := hbx1.free 1
              clear hwa ldg ldy hrun hD' hbx1 gA3 gc3 gm1 hm1 HD gyA gyn gyc HBx
              go_upto_region 19 with (first
                | (at_builtin
                   refine wpList_app rfl (.tmp 109) (.tmp 114) _ rfl rfl rfl Hrun.out ?_))
              clear lx1
              refine wp_region_lit ?_
              refine wl_read (v := ?_) (some 116) rfl (by rfl) ?_ ?_
              rotate_left
              · go_simp; (try with_reducible rfl)
              simp only [Act.put, List.setIfInBounds_toArray, List.set_cons_zero, List.set_cons_succ]
              refine wl_read (v := ?_) (some 117) rfl (by rfl) ?_ ?_
              rotate_left
              · refine exec_slice_low_as (k := 1) (m := m1) (c' := c3) (A' := A3) 55 70 (.tmp 116) (.const (.int .i64 1)) ?_ Try.underlying55 (s := 2) (by kernel_rfl) ?_ ?_ hk1 GA3.out Gm1.out Gc3.out <;> rfl
              simp only [Act.put, List.setIfInBounds_toArray, List.set_cons_zero, List.set_cons_succ]
              go_wp2
              go_roundw
              case rel => exact ⟨A3, m1, c3, T ++ [y], r, rfl, Hm1.out, HD'⟩
              case measure => simp only [lenOf]; exact hm1lt
            · have e0 : ((y.1 : Int) == (G : Int) + 1) = false := beq_eq_false_iff_ne.2 (by have := GG.out; omega)
              have e0' : ¬ ((y.1 : Int) = (G : Int) + 1) := by have := GG.out; omega
              obtain ⟨Y, gY⟩ : ∃ Y, y.1 = Y := ⟨_, rfl⟩
              rw [gY] at ldy e0 e0'
              have HgY := Lib.hid gY
              clear gY
              go_upto_region 17 with fail
              refine wp_region_reg (Nil_) (by kernel_rfl) ?_
              apply wpR_next 0 (some 94)
              · simp only [List.getElem?_toArray, List.getElem?_cons_succ, List.getElem?_cons_zero]; exact rfl
              · rfl
              · kernel_rfl
              · kernel_rfl
              · kernel_rfl
              · exact fun _ _ _ _ h => h
              apply Exists.intro
              apply And.intro
              · apply yr_run; rfl; intro w' hw'; go_simp; (try with_reducible rfl)
              simp only [Act.put, List.setIfInBounds_toArray, List.set_cons_zero, List.set_cons_succ]
              apply wpR_next 1 (some 95)
              · simp only [List.getElem?_toArray, List.getElem?_cons_succ, List.getElem?_cons_zero]; exact rfl
              · rfl
              · kernel_rfl
              · kernel_rfl
              · kernel_rfl
              · exact fun _ _ _ _ h => h
              apply Exists.intro
              apply And.intro
              · apply yr_run; rfl; intro w' hw'; go_simp; (try with_reducible rfl)
              simp only [Act.put, List.setIfInBounds_toArray, List.set_cons_zero, List.set_cons_succ]
              apply wpR_next 2 (some 96)
              · simp only [List.getElem?_toArray, List.getElem?_cons_succ, List.getElem?_cons_zero]; exact rfl
              · rfl
              · kernel_rfl
              · kernel_rfl
              · kernel_rfl
              · exact fun _ _ _ _ h => h
              apply Exists.intro
              apply And.intro
              · apply yr_run; rfl; intro w' hw'; go_simp; (try with_reducible rfl)
              simp only [Act.put, List.setIfInBounds_toArray, List.set_cons_zero, List.set_cons_succ]
              apply wpR_next 3 (some 97)
              · simp only [List.getElem?_toArray, List.getElem?_cons_succ, List.getElem?_cons_zero]; exact rfl
              · rfl
              · kernel_rfl
              · kernel_rfl
              · kernel_rfl
              · exact fun _ _ _ _ h => h
              apply Exists.intro
              apply And.intro
              · apply yr_run; rfl; intro w' hw'; go_simp; (try with_reducible rfl)
              simp only [Act.put, List.setIfInBounds_toArray, List.set_cons_zero, List.set_cons_succ]
              apply wpR_next 4 (some 98)
              · simp only [List.getElem?_toArray, List.getElem?_cons_succ, List.getElem?_cons_zero]; exact rfl
              · rfl
              · kernel_rfl
              · kernel_rfl
              · kernel_rfl
              · exact fun _ _ _ _ h => h
              apply Exists.intro
              apply And.intro
              · apply yr_run; rfl; intro w' hw'; go_simp; (try with_reducible rfl)
              simp only [Act.put, List.setIfInBounds_toArray, List.set_cons_zero, List.set_cons_succ]
              apply wpR_next 5 (some 99)
              · simp only [List.getElem?_toArray, List.getElem?_cons_succ, List.getElem?_cons_zero]; exact rfl
              · rfl
              · kernel_rfl
              · kernel_rfl
              · kernel_rfl
              · exact fun _ _ _ _ h => h
              apply Exists.intro
              apply And.intro
              · apply yr_run; rfl; intro w' hw'; go_simp; (try with_reducible rfl)
              simp only [Act.put, List.setIfInBounds_toArray, List.set_cons_zero, List.set_cons_succ]
              apply wpR_next 6 (some 100)
              · simp only [List.getElem?_toArray, List.getElem?_cons_succ, List.getElem?_cons_zero]; exact rfl
              · rfl
              · kernel_rfl
              · kernel_rfl
              · kernel_rfl
              · exact fun _ _ _ _ h => h
              apply Exists.intro
              apply And.intro
              · apply yr_run; rfl; intro w' hw'; go_simp; (try with_reducible rfl)
              simp only [Act.put, List.setIfInBounds_toArray, List.set_cons_zero, List.set_cons_succ]
              apply wpR_next 7 (some 101)
              · simp only [List.getElem?_toArray, List.getElem?_cons_succ, List.getElem?_cons_zero]; exact rfl
              · rfl
              · kernel_rfl
              · kernel_rfl
              · kernel_rfl
              · exact fun _ _ _ _ h => h
              apply Exists.intro
              apply And.intro
              · apply yr_run; rfl; intro w' hw'; go_simp; (try with_reducible rfl)
              simp only [Act.put, List.setIfInBounds_toArray, List.set_cons_zero, List.set_cons_succ]
              apply wpR_next 8 (some 102)
              · simp only [List.getElem?_toArray, List.getElem?_cons_succ, List.getElem?_cons_zero]; exact rfl
              · rfl
              · kernel_rfl
              · kernel_rfl
              · kernel_rfl
              · exact fun _ _ _ _ h => h
              apply Exists.intro
              apply And.intro
              · apply yr_run; rfl; intro w' hw'; go_simp; (try with_reducible rfl)
              simp only [Act.put, List.setIfInBounds_toArray, List.set_cons_zero, List.set_cons_succ]
              apply wpR_next 9 (some 103)
              · simp only [List.getElem?_toArray, List.getElem?_cons_succ, List.getElem?_cons_zero]; exact rfl
              · rfl
              · kernel_rfl
              · kernel_rfl
              · kernel_rfl
              · exact fun _ _ _ _ h => h
              apply Exists.intro
              apply And.intro
              · apply yr_run; rfl; intro w' hw'; go_simp; (try with_reducible rfl)
              simp only [Act.put, List.setIfInBounds_toArray, List.set_cons_zero, List.set_cons_succ]
              apply wpR_next 10 (some 104)
              · simp only [List.getElem?_toArray, List.getElem?_cons_succ, List.getElem?_cons_zero]; exact rfl
              · rfl
              · kernel_rfl
              · kernel_rfl
              · kernel_rfl
              · exact fun _ _ _ _ h => h
              apply Exists.intro
              apply And.intro
              · apply yr_run; rfl; intro w' hw'; go_simp; (try with_reducible rfl)
              simp only [Act.put, List.setIfInBounds_toArray, List.set_cons_zero, List.set_cons_succ]
              apply wpR_next 11 (some 105)
              · simp only [List.getElem?_toArray, List.getElem?_cons_succ, List.getElem?_cons_zero]; exact rfl
              · rfl
              · kernel_rfl
              · kernel_rfl
              · kernel_rfl
              · exact fun _ _ _ _ h => h
              apply Exists.intro
              apply And.intro
              · apply yr_run; rfl; intro w' hw'; go_simp; (try with_reducible rfl)
              simp only [Act.put, List.setIfInBounds_toArray, List.set_cons_zero, List.set_cons_succ]
              apply wpR_next 12 (some 106)
              · simp only [List.getElem?_toArray, List.getElem?_cons_succ, List.getElem?_cons_zero]; exact rfl
              · rfl
              · kernel_rfl
              · kernel_rfl
              · kernel_rfl
              · exact fun _ _ _ _ h => h
              apply Exists.intro
              apply And.intro
              · apply yr_run; rfl; intro w' hw'; go_simp; (try with_reducible rfl)
              simp only [Act.put, List.setIfInBounds_toArray, List.set_cons_zero, List.set_cons_succ]
              apply wpR_next 13 (some 107)
              · simp only [List.getElem?_toArray, List.getElem?_cons_succ, List.getElem?_cons_zero]; exact rfl
              · rfl
              · kernel_rfl
              · kernel_rfl
              · kernel_rfl
              · exact fun _ _ _ _ h => h
              apply Exists.intro
              apply And.intro
              · apply yr_run; rfl; intro w' hw'; go_simp; (try with_reducible rfl)
              simp only [Act.put, List.setIfInBounds_toArray, List.set_cons_zero, List.set_cons_succ]
              apply wpR_next 14 (some 108)
              · simp only [List.getElem?_toArray, List.getElem?_cons_succ, List.getElem?_cons_zero]; exact rfl
              · rfl
              · kernel_rfl
              · kernel_rfl
              · kernel_rfl
              · exact fun _ _ _ _ h => h
              apply Exists.intro
              apply And.intro
              · apply yr_run; rfl; intro w' hw'; go_simp; (try with_reducible rfl)
              simp only [Act.put, List.setIfInBounds_toArray, List.set_cons_zero, List.set_cons_succ]
              refine wpR_done (by kernel_rfl) ?_ _
              intro Wa hwa
              have HXa : RowKit.Hid (Ext wr Wa) := Lib.hid (Ext.trans ((Below.refl _ _).drew) hwa)
              have HDa := Lib.hid (HD.out.down HXa.out)
              have hbxa := HBx.out.below HXa.out
              have hcl := hbxa.cell (i := 2) rfl
              have hfr := hbxa.free 2
              clear hwa ldg ldy hbxa
              go_wp2
              refine bodyPost_ret (v := .tuple #[.slice Ao T.length co, .int .i64 0]) (by simp [results, Try.results30, go_sem]) rfl (.inr ⟨Hns.out, DrIn.done (HNe.out ▸ HDa.out) (fun e he => (next_or HD.out.rise HD.out.gt).elim (fun ⟨z, zr, hz, hz1⟩ => absurd (by have h9 := List.cons.inj hz; rw [h9.1]; exact hz1) hyG) (fun h => h e he)) rfl Hm.out Hfr.out⟩)
end Go.Proofs.Ythfngmlnmpbcpaa
