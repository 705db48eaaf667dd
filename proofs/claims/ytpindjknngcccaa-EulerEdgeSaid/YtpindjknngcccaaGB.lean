/- Words for all layers, in one text. -/
import Derived.Test.YtpindjknngcccaaGA
import Derived.Test.YtpindjknngcccaaBase
import Derived.Deep.CutBlock
import Derived.Laws.ResultCell

/- few. -/
namespace Go.Proofs.Ytpindjknngcccaa
open Go.RowKit
set_option linter.unusedSimpArgs false
set_option linter.unusedVariables false

theorem info_vertex : (Try.prog.info? 42).map (fun i => (i.zero, i.size, i.bytes)) = some (some (.agg #[.int .i64 0, .int .i64 0, .slice none 0 0, .string { data := #[] }, .int .i64 0]), 5, 64) := by kernel_rfl
theorem info_edge : (Try.prog.info? 37).map (fun i => (i.zero, i.size, i.bytes)) = some (some (.agg #[.int .i64 0, .int .i64 0, .string { data := #[] }, .int .i64 0]), 4, 40) := by kernel_rfl
theorem info_partsD {o : Option TypeInfo} {z : Value} {s b : Nat} (h : o.map (fun i => (i.zero, i.size, i.bytes)) = some (some z, s, b)) : ∃ i, o = some i ∧ i.zero = some z ∧ i.size = s ∧ i.bytes = b := by
  cases o with
  | none => simp at h
  | some i => simp at h; exact ⟨i, rfl, h⟩
theorem Ow.low_ne {w W : World} {B size n g : Nat} {e : TypeId} {v : Value} {xs : List Value} (h : Ow w B e size v n xs W) (hg : g < B) : some g ≠ v.ownBlock := fun e => by
  have := (h.own.lt g e.symm).1
  omega
theorem Ow.set_far {w W : World} {B size n g i : Nat} {e : TypeId} {v : Value} {xs : List Value} (h : Ow w B e size v n xs W) (hne : some g ≠ v.ownBlock) (hg : w.heap.size ≤ g) (u : Value) : Ow w B e size v n xs (W.setCell ⟨g, i, none⟩ u) :=
  ⟨h.own.kept (row := some g) ⟨rfl, rfl, rfl, by simp [World.setCell], fun k _ hk => Below.heap_setCell _ _ _ _ (by
    rintro rfl
    exact hk rfl)⟩ (by first | exact hne | exact hne.symm | exact .inr hne | exact .inr hne.symm), h.below.setCell hg u, h.lo, by simpa [World.setCell] using h.hi⟩
theorem Whole.set_far' {W : World} {g h i : Nat} {t : TypeId} {cs : List Value} (hw : Whole W g t cs) (hne : g ≠ h) (u : Value) : Whole (W.setCell ⟨h, i, none⟩ u) g t cs :=
  hw.at_ (Below.heap_setCell _ _ _ _ hne)
def fewV (v : VC) : VC := if 30 < v.2.1.2.1 then (v.1, (v.2.1.1, 30, v.2.1.2.2.1, v.2.1.2.2.2.take 30), v.2.2) else v
theorem fewE_next (Es : List EC) (j : Nat) (v : EC) (h : Es[j]? = some v) : rowsV eC (Es.take j) ++ rowsV eC [v] = rowsV eC (Es.take (j + 1)) := by
  rw [← rowsV_app, List.take_add_one, h]
  simp
/-- Both rows are new, and not too long. -/
def FwNew (w : World) (A : Option Addr) (n c : Nat) (B : Option Addr) (m k : Nat) : Prop :=
  c ≤ maxLen ∧ k ≤ maxLen ∧ (∀ a, A = some a → 0 < n → w.heap.size ≤ a.block) ∧ (∀ a, B = some a → 0 < m → w.heap.size ≤ a.block)
theorem RdS.far_ {W : World} {B size n c g i : Nat} {A : Option Addr} {xs : List Value} (h : RdS W B size A n c xs) (hne : ∀ a, A = some a → 0 < n → a.block ≠ g) (u : Value) : RdS (W.setCell ⟨g, i, none⟩ u) B size A n c xs :=
  ⟨h.len, h.none_, h.le, h.low, fun a ha j x hx => (World.cell?_of_block (Below.heap_setCell _ _ _ _ (by
    rw [add_block]
    first | exact hne a ha (h.pos hx) | exact (hne a ha (h.pos hx)).symm))).trans (h.cell a ha j x hx)⟩
/-- Between two rounds: the edges' row grows. -/
structure FewB (w : World) (Vs : List VC) (Es : List EC) (A B : Option Addr) (n c m k b0 b1 b2 B2 N : Nat) (A1 : Option Addr) (c1 j : Nat) (v u : Value) (wr : World) : Prop where
  ow : Ow w B2 37 4 v j (rowsV eC (Es.take j)) wr
  x0 : Whole wr b0 25 [.slice A n c, .slice B m k]
  x1 : Whole wr b1 25 [.slice none 0 0, .slice none 0 0]
  x2 : Whole wr b2 25 [.slice A1 N c1, u]
  rv : RdS wr B2 5 A1 N c1 (rowsV vC ((Vs.take 30).map fewV))
section
variable {w wr wr' : World} {Vs : List VC} {Es : List EC} {A B A1 : Option Addr} {n c m k b0 b1 b2 B2 N c1 j : Nat} {v u : Value}
theorem FewB.below (h : FewB w Vs Es A B n c m k b0 b1 b2 B2 N A1 c1 j v u wr) (hb : Below wr.heap.size wr wr') : FewB w Vs Es A B n c m k b0 b1 b2 B2 N A1 c1 j v u wr' :=
  ⟨h.ow.up hb, h.x0.below hb, h.x1.below hb, h.x2.below hb, h.rv.up (hb.mono h.ow.hi) (Nat.le_refl _)⟩
/-- The row has grown. -/
theorem FewB.grow (h : FewB w Vs Es A B n c m k b0 b1 b2 B2 N A1 c1 j v u wr) {e : EC} (he : Es[j]? = some e) {v' : Value} (ho : Ow w B2 37 4 v' (j + 1) (rowsV eC (Es.take j) ++ eC e) wr') (hb : Below B2 wr wr') (h0 : b0 < B2) (h1 : b1 < B2) (h2 : b2 < B2) :
    FewB w Vs Es A B n c m k b0 b1 b2 B2 N A1 c1 (j + 1) v' u wr' :=
  ⟨by rw [← fewE_next Es j e he]; simpa [rowsV] using ho, h.x0.at_ (hb.block _ h0), h.x1.at_ (hb.block _ h1), h.x2.at_ (hb.block _ h2), h.rv.up hb (Nat.le_refl _)⟩
theorem FewB.store (h : FewB w Vs Es A B n c m k b0 b1 b2 B2 N A1 c1 j v u wr) (h02 : b0 ≠ b2) (h12 : b1 ≠ b2) (h2 : b2 < B2) (hl : w.heap.size ≤ b2) (hne : ∀ a, A1 = some a → 0 < N → a.block ≠ b2) :
    FewB w Vs Es A B n c m k b0 b1 b2 B2 N A1 c1 j v v (wr.setCell ⟨b2, 1, none⟩ v) :=
  ⟨h.ow.set_far (h.ow.low_ne h2) hl v, h.x0.set_far' h02 v, h.x1.set_far' h12 v, h.x2.set_ 1 v, h.rv.far_ hne v⟩
end
theorem RgOk.few {w : World} {v : VC} (h : RgOk w v.2.1) : RgOk w (fewV v).2.1 := by
  unfold fewV
  split
  · rename_i h30
    refine ⟨h.1, ?_⟩
    have := h.2.take_ 30 (by omega)
    rw [dartsV_rows, ← rowsV_take dC dC_len] at this
    show RdS w w.heap.size 3 v.2.1.1 30 v.2.1.2.2.1 (dartsV (v.2.1.2.2.2.take 30))
    rw [dartsV_rows]
    exact this
  · exact h
end Go.Proofs.Ytpindjknngcccaa

/- slices.Clone of vertices, edges, darts; cloneVertex. -/
namespace Go.Proofs.Ytpindjknngcccaa
open Go.RowKit
set_option linter.unusedSimpArgs false
set_option linter.unusedVariables false

theorem info_dartD : (Try.prog.info? 39).map (fun i => (i.zero, i.size, i.bytes)) = some (some (.agg #[.int .i64 0, .int .i64 0, .int .i64 0]), 3, 24) := by kernel_rfl
end Go.Proofs.Ytpindjknngcccaa

/- Names. -/
namespace Go.Proofs.Ytpindjknngcccaa
open Go.RowKit
set_option linter.unusedSimpArgs false
set_option linter.unusedVariables false

theorem info_idD : (Try.prog.info? 35).map (fun i => (i.zero, i.size, i.bytes)) = some (some (.agg #[.int .i64 0, .int .i64 0]), 2, 16) := by kernel_rfl
def idC (x : Int × Int) : List Value := [.int .i64 x.1, .int .i64 x.2]
theorem idC_len (x : Int × Int) : (idC x).length = 2 := rfl
theorem names_next {α : Type} (g : α → Int × Int) (P : List (Int × Int)) (L : List α) (j : Nat) (x : α) (h : L[j]? = some x) : rowsV idC (P ++ (L.take j).map g) ++ idC (g x) = rowsV idC (P ++ (L.take (j + 1)).map g) := by
  have : (L.take (j + 1)).map g = (L.take j).map g ++ [g x] := by rw [List.take_add_one, h]; simp
  have e : rowsV idC [g x] = idC (g x) := by simp [rowsV]
  rw [this, ← List.append_assoc, rowsV_app idC (P ++ (L.take j).map g) [g x], e]
end Go.Proofs.Ytpindjknngcccaa

/- At: the vertex in whose ring a dart stands. -/
namespace Go.Proofs.Ytpindjknngcccaa
open Go.RowKit
set_option linter.unusedSimpArgs false
set_option linter.unusedVariables false

theorem ret_whole2 {P : Program} {fn : Func} {R : Ending → World → Prop} {a : Act} {w : World} {p u : Tmp} {t : TypeId} (h : fn.results = #[.cell p t, .tmp u]) (g : Nat) {t' : TypeId} {cs : List Value} {d : TypeDesc} {v : Value}
    (hp : a.tmps.getD p undef = .pointer (some ⟨g, 0, none⟩)) (hv : a.tmps.getD u undef = v) (hW : Whole w g t' cs) (hu : P.underlying t = some d) (hd : d.isRow = true) (hi : (P.info? t).map (·.size) = some cs.length)
    (hdf : a.defers = []) (hR : R (.returned (.tuple #[.agg cs.toArray, v])) w) : bodyPost P fn R .ret a w := by
  refine bodyPost_ret (v := .tuple #[.agg cs.toArray, v]) ?_ hdf hR
  have hl := run_loadVar_mid (P := P) w g 0 t cs d (fun j v hv => by
    have := hW.cell hv
    simpa using this) hu hd hi
  rw [results_cell_tmp h, hp, hv]
  simp [asAddr, Result.andThen, hl]
def atV (Vs : List VC) (x : D) : (Int × Int) × Bool := match Vs.find? (fun v => decide (x ∈ v.2.1.2.2.2)) with | some v => (v.1, true) | none => ((0, 0), false)
theorem atV_yes (v : VC) (r : List VC) (x : D) (h : x ∈ v.2.1.2.2.2) : atV (v :: r) x = (v.1, true) := by simp [atV, h]
theorem atV_no (v : VC) (r : List VC) (x : D) (h : ¬ x ∈ v.2.1.2.2.2) : atV (v :: r) x = atV r x := by simp [atV, h]
end Go.Proofs.Ytpindjknngcccaa

/- find, Vertex, Edge. -/
namespace Go.Proofs.Ytpindjknngcccaa
open Go.RowKit
set_option linter.unusedSimpArgs false
set_option linter.unusedVariables false


def fnd {α : Type} (nm : α → Int × Int) (z : α) (L : List α) (x : Int × Int) : α × Bool := match L.find? (fun v => decide (nm v = x)) with | some v => (v, true) | none => (z, false)
theorem fnd_yes {α : Type} (nm : α → Int × Int) (z v : α) (r : List α) (x : Int × Int) (h : nm v = x) : fnd nm z (v :: r) x = (v, true) := by simp [fnd, h]
theorem fnd_no {α : Type} (nm : α → Int × Int) (z v : α) (r : List α) (x : Int × Int) (h : ¬ nm v = x) : fnd nm z (v :: r) x = fnd nm z r x := by simp [fnd, h]
def zV : VC := ((0, 0), (none, 0, 0, []), ⟨#[]⟩, 0)
def zE : EC := ((0, 0), ⟨#[]⟩, 0)
def fndV (L : List VC) (x : Int × Int) := fnd (fun v : VC => v.1) zV L x
def fndE (L : List EC) (x : Int × Int) := fnd (fun v : EC => v.1) zE L x
theorem fnd_mem {α : Type} (nm : α → Int × Int) (z : α) (L : List α) (x : Int × Int) : (fnd nm z L x).1 ∈ L ∨ fnd nm z L x = (z, false) := by
  unfold fnd
  split
  · rename_i v h; exact .inl (List.mem_of_find?_eq_some h)
  · exact .inr rfl
end Go.Proofs.Ytpindjknngcccaa

/- Vertex, Same of the program. -/
namespace Go.Proofs.Ytpindjknngcccaa
open Go.RowKit
set_option linter.unusedSimpArgs false
set_option linter.unusedVariables false


theorem fndV_ring {w : World} {A B : Option Addr} {n c m k : Nat} {Vs : List VC} {Es : List EC} (h : DgIn w A n c Vs B m k Es) (hr : ∀ x ∈ Vs, x.2.1.2.1 ≤ 1000000) (x : Int × Int) :
    RgOk w (fndV Vs x).1.2.1 ∧ (fndV Vs x).1.2.1.2.1 ≤ 1000000 := by
  rcases fnd_mem (fun v : VC => v.1) zV Vs x with hm | he
  · exact ⟨h.r _ hm, hr _ hm⟩
  · have e : fndV Vs x = (zV, false) := he
    rw [e]
    exact ⟨⟨Nat.zero_le _, RdS.no _ _ _⟩, by decide⟩
/-- What a vertex is, wherever its ring lies. -/
def vS (v : VC) : (Int × Int) × List D × ByteArray × Int := (v.1, v.2.1.2.2.2, v.2.2.1, v.2.2.2)
end Go.Proofs.Ytpindjknngcccaa

/- The document's MayAttr, Vertex, Edge, At, times. -/
namespace Go.Proofs.Ytpindjknngcccaa
open Go.RowKit
set_option linter.unusedSimpArgs false
set_option linter.unusedVariables false

set_option maxRecDepth 100000 in
theorem rmayattr_any (n : Int) : Pure 37 #[.int .i64 n] (.bool (mayA n)) := fun w => by
  unfold mayA
  by_cases h1 : -1099511627776 ≤ n
  · by_cases h2 : n ≤ 1099511627776
    · rw [decide_eq_true ⟨h1, h2⟩]
      go_enter Try.func37, Try.ntmps37
      go_wp2
      go_ret
      exact ⟨rfl, Below.refl _ _⟩
    · rw [decide_eq_false (fun h => h2 h.2)]
      go_enter Try.func37, Try.ntmps37
      go_wp2
      go_ret
      exact ⟨rfl, Below.refl _ _⟩
  · rw [decide_eq_false (fun h => h1 h.1)]
    go_enter Try.func37, Try.ntmps37
    go_wp2
    go_ret
    exact ⟨rfl, Below.refl _ _⟩
set_option maxRecDepth 100000 in
set_option maxHeartbeats 4000000 in
theorem rfindV (A : Option Addr) (n c : Nat) (Vs : List VC) (B : Option Addr) (m k : Nat) (Es : List EC) (x1 x2 : Int) (w : World) (h : RdS w w.heap.size 5 A n c (rowsV vC Vs)) (hn : n ≤ 140737488355328) :
    Calls Try.prog 86 #[.agg #[.slice A n c, .slice B m k], .agg #[.int .i64 x1, .int .i64 x2]] w fun e w' => e = .returned (.tuple #[.agg (vC (fndV Vs (x1, x2)).1).toArray, .bool (fndV Vs (x1, x2)).2]) ∧ Below w.heap.size w w' := by
  have H := Lib.hid h
  have Hl := Lib.hid (h.rlen vC_len (by decide))
  obtain ⟨⟨r, ok⟩, gr⟩ : ∃ z, fndV Vs (x1, x2) = z := ⟨_, rfl⟩
  rw [gr]
  have HG := Lib.hid gr
  clear h gr
  go_enter Try.func86, Try.ntmps86
  go_wp2
  have hx0 : Whole (((w.alloc (.cells #[.slice A n c, .slice B m k] 25)).alloc (.cells #[.int .i64 x1, .int .i64 x2] 35)).alloc (.cells #[.int .i64 0, .int .i64 0, .slice none 0 0, .string { data := #[] }, .int .i64 0] 42)) (w.heap.size) 25 [.slice A n c, .slice B m k] := (((Whole.new_ w 25 [.slice A n c, .slice B m k]).alloc (.cells #[.int .i64 x1, .int .i64 x2] 35)).alloc (.cells #[.int .i64 0, .int .i64 0, .slice none 0 0, .string { data := #[] }, .int .i64 0] 42))
  have hx1 : Whole (((w.alloc (.cells #[.slice A n c, .slice B m k] 25)).alloc (.cells #[.int .i64 x1, .int .i64 x2] 35)).alloc (.cells #[.int .i64 0, .int .i64 0, .slice none 0 0, .string { data := #[] }, .int .i64 0] 42)) (w.heap.size + 1) 35 [.int .i64 x1, .int .i64 x2] := ((Whole.new2 (w := (w.alloc (.cells #[.slice A n c, .slice B m k] 25))) (by simp)).alloc (.cells #[.int .i64 0, .int .i64 0, .slice none 0 0, .string { data := #[] }, .int .i64 0] 42))
  have hx2 : Whole (((w.alloc (.cells #[.slice A n c, .slice B m k] 25)).alloc (.cells #[.int .i64 x1, .int .i64 x2] 35)).alloc (.cells #[.int .i64 0, .int .i64 0, .slice none 0 0, .string { data := #[] }, .int .i64 0] 42)) (w.heap.size + 1 + 1) 42 [.int .i64 0, .int .i64 0, .slice none 0 0, .string { data := #[] }, .int .i64 0] := (Whole.new2 (w := ((w.alloc (.cells #[.slice A n c, .slice B m k] 25)).alloc (.cells #[.int .i64 x1, .int .i64 x2] 35))) (by simp))
  have hbl : Below w.heap.size w (((w.alloc (.cells #[.slice A n c, .slice B m k] 25)).alloc (.cells #[.int .i64 x1, .int .i64 x2] 35)).alloc (.cells #[.int .i64 0, .int .i64 0, .slice none 0 0, .string { data := #[] }, .int .i64 0] 42)) := (bel_al (bel_al (below1 w (.cells #[.slice A n c, .slice B m k] 25)) (.cells #[.int .i64 x1, .int .i64 x2] 35)) (.cells #[.int .i64 0, .int .i64 0, .slice none 0 0, .string { data := #[] }, .int .i64 0] 42))
  have hsz : w.heap.size + 1 + 1 + 1 ≤ ((((w.alloc (.cells #[.slice A n c, .slice B m k] 25)).alloc (.cells #[.int .i64 x1, .int .i64 x2] 35)).alloc (.cells #[.int .i64 0, .int .i64 0, .slice none 0 0, .string { data := #[] }, .int .i64 0] 42))).heap.size := by simp
  obtain ⟨W0, gW0⟩ : ∃ z, (((w.alloc (.cells #[.slice A n c, .slice B m k] 25)).alloc (.cells #[.int .i64 x1, .int .i64 x2] 35)).alloc (.cells #[.int .i64 0, .int .i64 0, .slice none 0 0, .string { data := #[] }, .int .i64 0] 42)) = z := ⟨_, rfl⟩
  rw [gW0] at hx0 hx1 hx2 hbl hsz
  obtain ⟨b2, gb2⟩ : ∃ z, w.heap.size + 1 + 1 = z := ⟨_, rfl⟩
  rw [gb2] at hx2
  obtain ⟨b1, gb1⟩ : ∃ z, w.heap.size + 1 = z := ⟨_, rfl⟩
  rw [gb1] at hx1
  obtain ⟨b0, gb0⟩ : ∃ z, w.heap.size = z := ⟨_, rfl⟩
  rw [gb0] at hx0
  have HX0 := Lib.hid hx0
  have HX1 := Lib.hid hx1
  have HX2 := Lib.hid hx2
  have HB0 := Lib.hid hbl
  have HS0 := Lib.hid hsz
  have Gb0 := Lib.hid gb0
  have Lb0 : RowKit.Hid (w.heap.size ≤ b0) := Lib.hid (by omega)
  have Gb1 := Lib.hid gb1
  have Lb1 : RowKit.Hid (w.heap.size ≤ b1) := Lib.hid (by omega)
  have Gb2 := Lib.hid gb2
  have Lb2 : RowKit.Hid (w.heap.size ≤ b2) := Lib.hid (by omega)
  have N01 : RowKit.Hid (b0 ≠ b1) := Lib.hid (by omega)
  have N02 : RowKit.Hid (b0 ≠ b2) := Lib.hid (by omega)
  have N12 : RowKit.Hid (b1 ≠ b2) := Lib.hid (by omega)
  rw [gW0, gb2, gb1, gb0]
  clear gW0 hbl hsz hx0 hx1 hx2 gb0 gb1 gb2
  go_loopw [6] (fun si wr => ∃ j : Nat, j ≤ n ∧ si = .int .i64 j ∧ RowKit.Hid (Below w.heap.size w wr) ∧ RowKit.Hid (Whole wr b0 25 [.slice A n c, .slice B m k]) ∧ RowKit.Hid (Whole wr b1 35 [.int .i64 x1, .int .i64 x2]) ∧ RowKit.Hid (Whole wr b2 42 [.int .i64 0, .int .i64 0, .slice none 0 0, .string { data := #[] }, .int .i64 0]) ∧ RowKit.Hid (fndV (Vs.drop j) (x1, x2) = (r, ok))) (fun si _ => n - (intOf si).toNat)
  case atStart => exact ⟨0, by omega, rfl, HB0, HX0, HX1, HX2, HG⟩
  case round =>
    clear HB0 HX0 HX1 HX2 HG
    obtain ⟨j, hj, rfl, HB, HX0, HX1, HX2, HG⟩ := hrel
    obtain ⟨wo, gwo⟩ : ∃ z, wr = z := ⟨_, rfl⟩
    rw [gwo] at HB HX0 HX1 HX2 ⊢
    clear gwo
    by_cases hjn : j < n
    · obtain ⟨x, hx⟩ : ∃ x, Vs[j]? = some x := ⟨_, List.getElem?_eq_getElem (by have := Hl.out; omega)⟩
      have hdr : Vs.drop j = x :: Vs.drop (j + 1) := by
        rw [List.drop_eq_getElem_cons (List.getElem?_eq_some_iff.1 hx).1, (List.getElem?_eq_some_iff.1 hx).2]
      have hg2 := HG.out
      rw [hdr] at hg2
      have HG2 := Lib.hid hg2
      obtain ⟨bb, off, rfl, hbB, hpl⟩ := H.out.place vC_len (by decide) (by omega)
      have Hbo : RowKit.Hid (bb < wo.heap.size) := Lib.hid (Nat.lt_of_lt_of_le hbB HB.out.size)
      have hbw := HB.out
      have q0 := hpl j _ hx 0 _ rfl
      have q1 := hpl j _ hx 1 _ rfl
      have q2 := hpl j _ hx 2 _ rfl
      have q3 := hpl j _ hx 3 _ rfl
      have q4 := hpl j _ hx 4 _ rfl
      simp only [Addr.add_lit, Nat.add_zero] at q0 q1 q2 q3 q4
      have l0 := (hbw.cell (p := ⟨bb, off + j * 5, none⟩) hbB).trans q0
      have l1 := (hbw.cell (p := ⟨bb, off + j * 5 + 1, none⟩) hbB).trans q1
      have l2 := (hbw.cell (p := ⟨bb, off + j * 5 + 2, none⟩) hbB).trans q2
      have l3 := (hbw.cell (p := ⟨bb, off + j * 5 + 3, none⟩) hbB).trans q3
      have l4 := (hbw.cell (p := ⟨bb, off + j * 5 + 4, none⟩) hbB).trans q4
      clear hbw q0 q1 q2 q3 q4
      obtain ⟨⟨i1, i2⟩, ⟨rA, rn, rc, rL⟩, lb, at_⟩ := x
      have HE := Lib.hid (And.intro l0 (And.intro l1 (And.intro l2 (And.intro l3 l4))))
      have cb := HX0.out.cell (i := 0) rfl
      clear hx hdr hg2 hpl hbB HG
      have ldl0 := l0
      go_upto_region 4 with fail
      clear cb ldl0
      have ldb : ∀ w', Kept Nil_ wo.drew w' → w'.cell? ⟨b0, 0, none⟩ = some (.slice (some ⟨bb, off, none⟩) n c) := fun w' h => h.nil_cell (HX0.out.dr.cell (i := 0) rfl)
      have ldx : ∀ w', Kept Nil_ wo.drew w' → w'.cell? ⟨b1, 0, none⟩ = some (.int .i64 x1) := fun w' h => h.nil_cell (HX1.out.dr.cell (i := 0) rfl)
      have ldy : ∀ w', Kept Nil_ wo.drew w' → w'.cell? ⟨b1, 1, none⟩ = some (.int .i64 x2) := fun w' h => h.nil_cell (HX1.out.dr.cell (i := 1) rfl)
      have lde : ∀ w', Kept Nil_ wo.drew w' → w'.cell? ⟨bb, off + j * 5, none⟩ = some (.int .i64 i1) := fun w' h => h.nil_cell (l0)
      have ldf : ∀ w', Kept Nil_ wo.drew w' → w'.cell? ⟨bb, off + j * 5 + 1, none⟩ = some (.int .i64 i2) := fun w' h => h.nil_cell (l1)
      clear l0 l1 l2 l3 l4
      have heq := fun W => eq_id i1 i2 x1 x2 W
      obtain ⟨bq, gbq⟩ : ∃ z, (i1 == x1 && i2 == x2) = z := ⟨_, rfl⟩
      rw [gbq] at heq
      have Gbq := Lib.hid gbq
      clear gbq
      refine wp_region_reg (Nil_) (by kernel_rfl) ?_
      apply wpR_next 0 (some 14)
      · simp only [List.getElem?_toArray, List.getElem?_cons_succ, List.getElem?_cons_zero]; exact rfl
      · rfl
      · kernel_rfl
      · kernel_rfl
      · kernel_rfl
      · exact fun _ _ _ _ h => h
      apply Exists.intro
      apply And.intro
      · apply yr_run; rfl; intro w' hw'; go_simp; (try with_reducible rfl)
      simp only [Act.put, List.setIfInBounds_toArray, List.set_cons_zero, List.set_cons_succ]
      apply wpR_next 1 (some 15)
      · simp only [List.getElem?_toArray, List.getElem?_cons_succ, List.getElem?_cons_zero]; exact rfl
      · rfl
      · kernel_rfl
      · kernel_rfl
      · kernel_rfl
      · exact fun _ _ _ _ h => h
      apply Exists.intro
      apply And.intro
      · apply yr_run; rfl; intro w' hw'; go_simp; (try with_reducible rfl)
      simp only [Act.put, List.setIfInBounds_toArray, List.set_cons_zero, List.set_cons_succ]
      apply wpR_next 2 (some 16)
      · simp only [List.getElem?_toArray, List.getElem?_cons_succ, List.getElem?_cons_zero]; exact rfl
      · rfl
      · kernel_rfl
      · kernel_rfl
      · kernel_rfl
      · exact fun _ _ _ _ h => h
      apply Exists.intro
      apply And.intro
      · apply yr_run; rfl; intro w' hw'; go_simp; (try with_reducible rfl)
      simp only [Act.put, List.setIfInBounds_toArray, List.set_cons_zero, List.set_cons_succ]
      apply wpR_next 3 (some 17)
      · simp only [List.getElem?_toArray, List.getElem?_cons_succ, List.getElem?_cons_zero]; exact rfl
      · rfl
      · kernel_rfl
      · kernel_rfl
      · kernel_rfl
      · exact fun _ _ _ _ h => h
      apply Exists.intro
      apply And.intro
      · apply yr_run; rfl; intro w' hw'; go_simp; (try with_reducible rfl)
      simp only [Act.put, List.setIfInBounds_toArray, List.set_cons_zero, List.set_cons_succ]
      apply wpR_next 4 (some 18)
      · simp only [List.getElem?_toArray, List.getElem?_cons_succ, List.getElem?_cons_zero]; exact rfl
      · rfl
      · kernel_rfl
      · kernel_rfl
      · kernel_rfl
      · exact fun _ _ _ _ h => h
      apply Exists.intro
      apply And.intro
      · apply yr_run; rfl; intro w' hw'; go_simp; (try with_reducible rfl)
      simp only [Act.put, List.setIfInBounds_toArray, List.set_cons_zero, List.set_cons_succ]
      apply wpR_next 5 (some 19)
      · simp only [List.getElem?_toArray, List.getElem?_cons_succ, List.getElem?_cons_zero]; exact rfl
      · rfl
      · kernel_rfl
      · kernel_rfl
      · kernel_rfl
      · exact fun _ _ _ _ h => h
      apply Exists.intro
      apply And.intro
      · apply yr_run; rfl; intro w' hw'; go_simp; (try with_reducible rfl)
      simp only [Act.put, List.setIfInBounds_toArray, List.set_cons_zero, List.set_cons_succ]
      apply wpR_next 6 (some 20)
      · simp only [List.getElem?_toArray, List.getElem?_cons_succ, List.getElem?_cons_zero]; exact rfl
      · rfl
      · kernel_rfl
      · kernel_rfl
      · kernel_rfl
      · exact fun _ _ _ _ h => h
      apply Exists.intro
      apply And.intro
      · apply yr_run; rfl; intro w' hw'; go_simp; (try with_reducible rfl)
      simp only [Act.put, List.setIfInBounds_toArray, List.set_cons_zero, List.set_cons_succ]
      apply wpR_next 7 (some 21)
      · simp only [List.getElem?_toArray, List.getElem?_cons_succ, List.getElem?_cons_zero]; exact rfl
      · rfl
      · kernel_rfl
      · kernel_rfl
      · kernel_rfl
      · exact fun _ _ _ _ h => h
      apply Exists.intro
      apply And.intro
      · apply yr_run; rfl; intro w' hw'; go_simp; (try with_reducible rfl)
      simp only [Act.put, List.setIfInBounds_toArray, List.set_cons_zero, List.set_cons_succ]
      refine wpR_done (by kernel_rfl) ?_ _
      intro W3 hw3
      have HX03 := Lib.hid (HX0.out.dr.bl hw3)
      have HX13 := Lib.hid (HX1.out.dr.bl hw3)
      have HX23 := Lib.hid (HX2.out.dr.bl hw3)
      have HE3 : RowKit.Hid (Below wo.heap.size wo W3) := Lib.hid (bel_bl (bel_dr (Below.refl _ _)) hw3)
      have HB3 := Lib.hid (bel_bl HB.out HE3.out)
      clear hw3 ldb ldx ldy lde ldf HB HX0 HX1 HX2 heq
      cases bq with
      | true =>
        have hq := Gbq.out
        rw [Bool.and_eq_true, beq_iff_eq, beq_iff_eq] at hq
        have hg := HG2.out
        rw [fndV, fnd_yes _ _ _ _ _ (by rw [hq.1, hq.2])] at hg
        injection hg with hg1 hg2
        subst hg1 hg2
        obtain ⟨l0, l1, l2, l3, l4⟩ := HE.out
        have hB3 := HE3.out
        have hbo := Hbo.out
        have cb := HX03.out.cell (i := 0) rfl
        have f0 := HX23.out.free 0
        have k0 := HX23.out.cell (i := 0) rfl
        have y0 := (hB3.cell (p := ⟨bb, off + j * 5, none⟩) hbo).trans l0
        have f1 := HX23.out.free 1
        have k1 := HX23.out.cell (i := 1) rfl
        have y1 := (hB3.cell (p := ⟨bb, off + j * 5 + 1, none⟩) hbo).trans l1
        have f2 := HX23.out.free 2
        have k2 := HX23.out.cell (i := 2) rfl
        have y2 := (hB3.cell (p := ⟨bb, off + j * 5 + 2, none⟩) hbo).trans l2
        have f3 := HX23.out.free 3
        have k3 := HX23.out.cell (i := 3) rfl
        have y3 := (hB3.cell (p := ⟨bb, off + j * 5 + 3, none⟩) hbo).trans l3
        have f4 := HX23.out.free 4
        have k4 := HX23.out.cell (i := 4) rfl
        have y4 := (hB3.cell (p := ⟨bb, off + j * 5 + 4, none⟩) hbo).trans l4
        have HY := Lib.hid (((((HX23.out.set_ 0 (.int .i64 i1)).set_ 1 (.int .i64 i2)).set_ 2 (.slice rA rn rc)).set_ 3 (.string lb)).set_ 4 (.int .i64 at_))
        have HBf := Lib.hid (((((HB3.out.setCell (p := ⟨b2, 0, none⟩) Lb2.out (.int .i64 i1)).setCell (p := ⟨b2, 1, none⟩) Lb2.out (.int .i64 i2)).setCell (p := ⟨b2, 2, none⟩) Lb2.out (.slice rA rn rc)).setCell (p := ⟨b2, 3, none⟩) Lb2.out (.string lb)).setCell (p := ⟨b2, 4, none⟩) Lb2.out (.int .i64 at_))
        clear HX23 HG2 HB3 hq l0 l1 l2 l3 l4 HE hB3 HE3
        go_wp2
        exact ret_whole2 rfl b2 rfl rfl HY.out Try.underlying42 rfl (by kernel_rfl) rfl ⟨rfl, HBf.out⟩
      | false =>
        have hg := HG2.out
        rw [fndV, fnd_no _ _ _ _ _ (fun e => by
          have e1 : i1 = x1 := congrArg Prod.fst e
          have e2 : i2 = x2 := congrArg Prod.snd e
          have := Gbq.out
          rw [e1, e2] at this
          simp at this)] at hg
        have HG4 := Lib.hid hg
        clear hg HG2 HE HE3
        go_wp2
        go_roundw
        case rel => exact ⟨j + 1, by omega, by go_num, HB3, HX03, HX13, HX23, HG4⟩
        case measure => simp [intOf]; omega
    · obtain rfl : n = j := by omega
      have hg := HG.out
      rw [List.drop_eq_nil_of_le (by have := Hl.out; omega)] at hg
      replace hg : (zV, false) = (r, ok) := hg
      injection hg with hg1 hg2
      subst hg1 hg2
      have cb := HX0.out.cell (i := 0) rfl
      have f0 := HX2.out.free 0
      have k0 := HX2.out.cell (i := 0) rfl
      have f1 := HX2.out.free 1
      have k1 := HX2.out.cell (i := 1) rfl
      have f2 := HX2.out.free 2
      have k2 := HX2.out.cell (i := 2) rfl
      have f3 := HX2.out.free 3
      have k3 := HX2.out.cell (i := 3) rfl
      have f4 := HX2.out.free 4
      have k4 := HX2.out.cell (i := 4) rfl
      have HY := Lib.hid (((((HX2.out.set_ 0 (.int .i64 0)).set_ 1 (.int .i64 0)).set_ 2 (.slice none 0 0)).set_ 3 (.string { data := #[] })).set_ 4 (.int .i64 0))
      have HBf := Lib.hid (((((HB.out.setCell (p := ⟨b2, 0, none⟩) Lb2.out (.int .i64 0)).setCell (p := ⟨b2, 1, none⟩) Lb2.out (.int .i64 0)).setCell (p := ⟨b2, 2, none⟩) Lb2.out (.slice none 0 0)).setCell (p := ⟨b2, 3, none⟩) Lb2.out (.string { data := #[] })).setCell (p := ⟨b2, 4, none⟩) Lb2.out (.int .i64 0))
      clear HG HX2
      go_wp2
      exact ret_whole2 rfl b2 rfl rfl HY.out Try.underlying42 rfl (by kernel_rfl) rfl ⟨rfl, HBf.out⟩
set_option maxRecDepth 100000 in
set_option maxHeartbeats 4000000 in
theorem rfindE (A : Option Addr) (n c : Nat) (Vs : List VC) (B : Option Addr) (m k : Nat) (Es : List EC) (x1 x2 : Int) (w : World) (h : RdS w w.heap.size 4 B m k (rowsV eC Es)) (hn : m ≤ 140737488355328) :
    Calls Try.prog 22 #[.agg #[.slice A n c, .slice B m k], .agg #[.int .i64 x1, .int .i64 x2]] w fun e w' => e = .returned (.tuple #[.agg (eC (fndE Es (x1, x2)).1).toArray, .bool (fndE Es (x1, x2)).2]) ∧ Below w.heap.size w w' := by
  have H := Lib.hid h
  have Hl := Lib.hid (h.rlen eC_len (by decide))
  obtain ⟨⟨r, ok⟩, gr⟩ : ∃ z, fndE Es (x1, x2) = z := ⟨_, rfl⟩
  rw [gr]
  have HG := Lib.hid gr
  clear h gr
  go_enter Try.func22, Try.ntmps22
  go_wp2
  have hx0 : Whole (((w.alloc (.cells #[.slice A n c, .slice B m k] 25)).alloc (.cells #[.int .i64 x1, .int .i64 x2] 35)).alloc (.cells #[.int .i64 0, .int .i64 0, .string { data := #[] }, .int .i64 0] 37)) (w.heap.size) 25 [.slice A n c, .slice B m k] := (((Whole.new_ w 25 [.slice A n c, .slice B m k]).alloc (.cells #[.int .i64 x1, .int .i64 x2] 35)).alloc (.cells #[.int .i64 0, .int .i64 0, .string { data := #[] }, .int .i64 0] 37))
  have hx1 : Whole (((w.alloc (.cells #[.slice A n c, .slice B m k] 25)).alloc (.cells #[.int .i64 x1, .int .i64 x2] 35)).alloc (.cells #[.int .i64 0, .int .i64 0, .string { data := #[] }, .int .i64 0] 37)) (w.heap.size + 1) 35 [.int .i64 x1, .int .i64 x2] := ((Whole.new2 (w := (w.alloc (.cells #[.slice A n c, .slice B m k] 25))) (by simp)).alloc (.cells #[.int .i64 0, .int .i64 0, .string { data := #[] }, .int .i64 0] 37))
  have hx2 : Whole (((w.alloc (.cells #[.slice A n c, .slice B m k] 25)).alloc (.cells #[.int .i64 x1, .int .i64 x2] 35)).alloc (.cells #[.int .i64 0, .int .i64 0, .string { data := #[] }, .int .i64 0] 37)) (w.heap.size + 1 + 1) 37 [.int .i64 0, .int .i64 0, .string { data := #[] }, .int .i64 0] := (Whole.new2 (w := ((w.alloc (.cells #[.slice A n c, .slice B m k] 25)).alloc (.cells #[.int .i64 x1, .int .i64 x2] 35))) (by simp))
  have hbl : Below w.heap.size w (((w.alloc (.cells #[.slice A n c, .slice B m k] 25)).alloc (.cells #[.int .i64 x1, .int .i64 x2] 35)).alloc (.cells #[.int .i64 0, .int .i64 0, .string { data := #[] }, .int .i64 0] 37)) := (bel_al (bel_al (below1 w (.cells #[.slice A n c, .slice B m k] 25)) (.cells #[.int .i64 x1, .int .i64 x2] 35)) (.cells #[.int .i64 0, .int .i64 0, .string { data := #[] }, .int .i64 0] 37))
  have hsz : w.heap.size + 1 + 1 + 1 ≤ ((((w.alloc (.cells #[.slice A n c, .slice B m k] 25)).alloc (.cells #[.int .i64 x1, .int .i64 x2] 35)).alloc (.cells #[.int .i64 0, .int .i64 0, .string { data := #[] }, .int .i64 0] 37))).heap.size := by simp
  obtain ⟨W0, gW0⟩ : ∃ z, (((w.alloc (.cells #[.slice A n c, .slice B m k] 25)).alloc (.cells #[.int .i64 x1, .int .i64 x2] 35)).alloc (.cells #[.int .i64 0, .int .i64 0, .string { data := #[] }, .int .i64 0] 37)) = z := ⟨_, rfl⟩
  rw [gW0] at hx0 hx1 hx2 hbl hsz
  obtain ⟨b2, gb2⟩ : ∃ z, w.heap.size + 1 + 1 = z := ⟨_, rfl⟩
  rw [gb2] at hx2
  obtain ⟨b1, gb1⟩ : ∃ z, w.heap.size + 1 = z := ⟨_, rfl⟩
  rw [gb1] at hx1
  obtain ⟨b0, gb0⟩ : ∃ z, w.heap.size = z := ⟨_, rfl⟩
  rw [gb0] at hx0
  have HX0 := Lib.hid hx0
  have HX1 := Lib.hid hx1
  have HX2 := Lib.hid hx2
  have HB0 := Lib.hid hbl
  have HS0 := Lib.hid hsz
  have Gb0 := Lib.hid gb0
  have Lb0 : RowKit.Hid (w.heap.size ≤ b0) := Lib.hid (by omega)
  have Gb1 := Lib.hid gb1
  have Lb1 : RowKit.Hid (w.heap.size ≤ b1) := Lib.hid (by omega)
  have Gb2 := Lib.hid gb2
  have Lb2 : RowKit.Hid (w.heap.size ≤ b2) := Lib.hid (by omega)
  have N01 : RowKit.Hid (b0 ≠ b1) := Lib.hid (by omega)
  have N02 : RowKit.Hid (b0 ≠ b2) := Lib.hid (by omega)
  have N12 : RowKit.Hid (b1 ≠ b2) := Lib.hid (by omega)
  rw [gW0, gb2, gb1, gb0]
  clear gW0 hbl hsz hx0 hx1 hx2 gb0 gb1 gb2
  go_loopw [6] (fun si wr => ∃ j : Nat, j ≤ m ∧ si = .int .i64 j ∧ RowKit.Hid (Below w.heap.size w wr) ∧ RowKit.Hid (Whole wr b0 25 [.slice A n c, .slice B m k]) ∧ RowKit.Hid (Whole wr b1 35 [.int .i64 x1, .int .i64 x2]) ∧ RowKit.Hid (Whole wr b2 37 [.int .i64 0, .int .i64 0, .string { data := #[] }, .int .i64 0]) ∧ RowKit.Hid (fndE (Es.drop j) (x1, x2) = (r, ok))) (fun si _ => m - (intOf si).toNat)
  case atStart => exact ⟨0, by omega, rfl, HB0, HX0, HX1, HX2, HG⟩
  case round =>
    clear HB0 HX0 HX1 HX2 HG
    obtain ⟨j, hj, rfl, HB, HX0, HX1, HX2, HG⟩ := hrel
    obtain ⟨wo, gwo⟩ : ∃ z, wr = z := ⟨_, rfl⟩
    rw [gwo] at HB HX0 HX1 HX2 ⊢
    clear gwo
    by_cases hjn : j < m
    · obtain ⟨x, hx⟩ : ∃ x, Es[j]? = some x := ⟨_, List.getElem?_eq_getElem (by have := Hl.out; omega)⟩
      have hdr : Es.drop j = x :: Es.drop (j + 1) := by
        rw [List.drop_eq_getElem_cons (List.getElem?_eq_some_iff.1 hx).1, (List.getElem?_eq_some_iff.1 hx).2]
      have hg2 := HG.out
      rw [hdr] at hg2
      have HG2 := Lib.hid hg2
      obtain ⟨bb, off, rfl, hbB, hpl⟩ := H.out.place eC_len (by decide) (by omega)
      have Hbo : RowKit.Hid (bb < wo.heap.size) := Lib.hid (Nat.lt_of_lt_of_le hbB HB.out.size)
      have hbw := HB.out
      have q0 := hpl j _ hx 0 _ rfl
      have q1 := hpl j _ hx 1 _ rfl
      have q2 := hpl j _ hx 2 _ rfl
      have q3 := hpl j _ hx 3 _ rfl
      simp only [Addr.add_lit, Nat.add_zero] at q0 q1 q2 q3
      have l0 := (hbw.cell (p := ⟨bb, off + j * 4, none⟩) hbB).trans q0
      have l1 := (hbw.cell (p := ⟨bb, off + j * 4 + 1, none⟩) hbB).trans q1
      have l2 := (hbw.cell (p := ⟨bb, off + j * 4 + 2, none⟩) hbB).trans q2
      have l3 := (hbw.cell (p := ⟨bb, off + j * 4 + 3, none⟩) hbB).trans q3
      clear hbw q0 q1 q2 q3
      obtain ⟨⟨i1, i2⟩, lb, at_⟩ := x
      have HE := Lib.hid (And.intro l0 (And.intro l1 (And.intro l2 l3)))
      have cb := HX0.out.cell (i := 1) rfl
      clear hx hdr hg2 hpl hbB HG
      have ldl0 := l0
      go_upto_region 4 with fail
      clear cb ldl0
      have ldb : ∀ w', Kept Nil_ wo.drew w' → w'.cell? ⟨b0, 1, none⟩ = some (.slice (some ⟨bb, off, none⟩) m k) := fun w' h => h.nil_cell (HX0.out.dr.cell (i := 1) rfl)
      have ldx : ∀ w', Kept Nil_ wo.drew w' → w'.cell? ⟨b1, 0, none⟩ = some (.int .i64 x1) := fun w' h => h.nil_cell (HX1.out.dr.cell (i := 0) rfl)
      have ldy : ∀ w', Kept Nil_ wo.drew w' → w'.cell? ⟨b1, 1, none⟩ = some (.int .i64 x2) := fun w' h => h.nil_cell (HX1.out.dr.cell (i := 1) rfl)
      have lde : ∀ w', Kept Nil_ wo.drew w' → w'.cell? ⟨bb, off + j * 4, none⟩ = some (.int .i64 i1) := fun w' h => h.nil_cell (l0)
      have ldf : ∀ w', Kept Nil_ wo.drew w' → w'.cell? ⟨bb, off + j * 4 + 1, none⟩ = some (.int .i64 i2) := fun w' h => h.nil_cell (l1)
      clear l0 l1 l2 l3
      have heq := fun W => eq_id i1 i2 x1 x2 W
      obtain ⟨bq, gbq⟩ : ∃ z, (i1 == x1 && i2 == x2) = z := ⟨_, rfl⟩
      rw [gbq] at heq
      have Gbq := Lib.hid gbq
      clear gbq
      refine wp_region_reg (Nil_) (by kernel_rfl) ?_
      apply wpR_next 0 (some 14)
      · simp only [List.getElem?_toArray, List.getElem?_cons_succ, List.getElem?_cons_zero]; exact rfl
      · rfl
      · kernel_rfl
      · kernel_rfl
      · kernel_rfl
      · exact fun _ _ _ _ h => h
      apply Exists.intro
      apply And.intro
      · apply yr_run; rfl; intro w' hw'; go_simp; (try with_reducible rfl)
      simp only [Act.put, List.setIfInBounds_toArray, List.set_cons_zero, List.set_cons_succ]
      apply wpR_next 1 (some 15)
      · simp only [List.getElem?_toArray, List.getElem?_cons_succ, List.getElem?_cons_zero]; exact rfl
      · rfl
      · kernel_rfl
      · kernel_rfl
      · kernel_rfl
      · exact fun _ _ _ _ h => h
      apply Exists.intro
      apply And.intro
      · apply yr_run; rfl; intro w' hw'; go_simp; (try with_reducible rfl)
      simp only [Act.put, List.setIfInBounds_toArray, List.set_cons_zero, List.set_cons_succ]
      apply wpR_next 2 (some 16)
      · simp only [List.getElem?_toArray, List.getElem?_cons_succ, List.getElem?_cons_zero]; exact rfl
      · rfl
      · kernel_rfl
      · kernel_rfl
      · kernel_rfl
      · exact fun _ _ _ _ h => h
      apply Exists.intro
      apply And.intro
      · apply yr_run; rfl; intro w' hw'; go_simp; (try with_reducible rfl)
      simp only [Act.put, List.setIfInBounds_toArray, List.set_cons_zero, List.set_cons_succ]
      apply wpR_next 3 (some 17)
      · simp only [List.getElem?_toArray, List.getElem?_cons_succ, List.getElem?_cons_zero]; exact rfl
      · rfl
      · kernel_rfl
      · kernel_rfl
      · kernel_rfl
      · exact fun _ _ _ _ h => h
      apply Exists.intro
      apply And.intro
      · apply yr_run; rfl; intro w' hw'; go_simp; (try with_reducible rfl)
      simp only [Act.put, List.setIfInBounds_toArray, List.set_cons_zero, List.set_cons_succ]
      apply wpR_next 4 (some 18)
      · simp only [List.getElem?_toArray, List.getElem?_cons_succ, List.getElem?_cons_zero]; exact rfl
      · rfl
      · kernel_rfl
      · kernel_rfl
      · kernel_rfl
      · exact fun _ _ _ _ h => h
      apply Exists.intro
      apply And.intro
      · apply yr_run; rfl; intro w' hw'; go_simp; (try with_reducible rfl)
      simp only [Act.put, List.setIfInBounds_toArray, List.set_cons_zero, List.set_cons_succ]
      apply wpR_next 5 (some 19)
      · simp only [List.getElem?_toArray, List.getElem?_cons_succ, List.getElem?_cons_zero]; exact rfl
      · rfl
      · kernel_rfl
      · kernel_rfl
      · kernel_rfl
      · exact fun _ _ _ _ h => h
      apply Exists.intro
      apply And.intro
      · apply yr_run; rfl; intro w' hw'; go_simp; (try with_reducible rfl)
      simp only [Act.put, List.setIfInBounds_toArray, List.set_cons_zero, List.set_cons_succ]
      apply wpR_next 6 (some 20)
      · simp only [List.getElem?_toArray, List.getElem?_cons_succ, List.getElem?_cons_zero]; exact rfl
      · rfl
      · kernel_rfl
      · kernel_rfl
      · kernel_rfl
      · exact fun _ _ _ _ h => h
      apply Exists.intro
      apply And.intro
      · apply yr_run; rfl; intro w' hw'; go_simp; (try with_reducible rfl)
      simp only [Act.put, List.setIfInBounds_toArray, List.set_cons_zero, List.set_cons_succ]
      apply wpR_next 7 (some 21)
      · simp only [List.getElem?_toArray, List.getElem?_cons_succ, List.getElem?_cons_zero]; exact rfl
      · rfl
      · kernel_rfl
      · kernel_rfl
      · kernel_rfl
      · exact fun _ _ _ _ h => h
      apply Exists.intro
      apply And.intro
      · apply yr_run; rfl; intro w' hw'; go_simp; (try with_reducible rfl)
      simp only [Act.put, List.setIfInBounds_toArray, List.set_cons_zero, List.set_cons_succ]
      refine wpR_done (by kernel_rfl) ?_ _
      intro W3 hw3
      have HX03 := Lib.hid (HX0.out.dr.bl hw3)
      have HX13 := Lib.hid (HX1.out.dr.bl hw3)
      have HX23 := Lib.hid (HX2.out.dr.bl hw3)
      have HE3 : RowKit.Hid (Below wo.heap.size wo W3) := Lib.hid (bel_bl (bel_dr (Below.refl _ _)) hw3)
      have HB3 := Lib.hid (bel_bl HB.out HE3.out)
      clear hw3 ldb ldx ldy lde ldf HB HX0 HX1 HX2 heq
      cases bq with
      | true =>
        have hq := Gbq.out
        rw [Bool.and_eq_true, beq_iff_eq, beq_iff_eq] at hq
        have hg := HG2.out
        rw [fndE, fnd_yes _ _ _ _ _ (by rw [hq.1, hq.2])] at hg
        injection hg with hg1 hg2
        subst hg1 hg2
        obtain ⟨l0, l1, l2, l3⟩ := HE.out
        have hB3 := HE3.out
        have hbo := Hbo.out
        have cb := HX03.out.cell (i := 1) rfl
        have f0 := HX23.out.free 0
        have k0 := HX23.out.cell (i := 0) rfl
        have y0 := (hB3.cell (p := ⟨bb, off + j * 4, none⟩) hbo).trans l0
        have f1 := HX23.out.free 1
        have k1 := HX23.out.cell (i := 1) rfl
        have y1 := (hB3.cell (p := ⟨bb, off + j * 4 + 1, none⟩) hbo).trans l1
        have f2 := HX23.out.free 2
        have k2 := HX23.out.cell (i := 2) rfl
        have y2 := (hB3.cell (p := ⟨bb, off + j * 4 + 2, none⟩) hbo).trans l2
        have f3 := HX23.out.free 3
        have k3 := HX23.out.cell (i := 3) rfl
        have y3 := (hB3.cell (p := ⟨bb, off + j * 4 + 3, none⟩) hbo).trans l3
        have HY := Lib.hid ((((HX23.out.set_ 0 (.int .i64 i1)).set_ 1 (.int .i64 i2)).set_ 2 (.string lb)).set_ 3 (.int .i64 at_))
        have HBf := Lib.hid ((((HB3.out.setCell (p := ⟨b2, 0, none⟩) Lb2.out (.int .i64 i1)).setCell (p := ⟨b2, 1, none⟩) Lb2.out (.int .i64 i2)).setCell (p := ⟨b2, 2, none⟩) Lb2.out (.string lb)).setCell (p := ⟨b2, 3, none⟩) Lb2.out (.int .i64 at_))
        clear HX23 HG2 HB3 hq l0 l1 l2 l3 HE hB3 HE3
        go_wp2
        exact ret_whole2 rfl b2 rfl rfl HY.out Try.underlying37 rfl (by kernel_rfl) rfl ⟨rfl, HBf.out⟩
      | false =>
        have hg := HG2.out
        rw [fndE, fnd_no _ _ _ _ _ (fun e => by
          have e1 : i1 = x1 := congrArg Prod.fst e
          have e2 : i2 = x2 := congrArg Prod.snd e
          have := Gbq.out
          rw [e1, e2] at this
          simp at this)] at hg
        have HG4 := Lib.hid hg
        clear hg HG2 HE HE3
        go_wp2
        go_roundw
        case rel => exact ⟨j + 1, by omega, by go_num, HB3, HX03, HX13, HX23, HG4⟩
        case measure => simp [intOf]; omega
    · obtain rfl : m = j := by omega
      have hg := HG.out
      rw [List.drop_eq_nil_of_le (by have := Hl.out; omega)] at hg
      replace hg : (zE, false) = (r, ok) := hg
      injection hg with hg1 hg2
      subst hg1 hg2
      have cb := HX0.out.cell (i := 1) rfl
      have f0 := HX2.out.free 0
      have k0 := HX2.out.cell (i := 0) rfl
      have f1 := HX2.out.free 1
      have k1 := HX2.out.cell (i := 1) rfl
      have f2 := HX2.out.free 2
      have k2 := HX2.out.cell (i := 2) rfl
      have f3 := HX2.out.free 3
      have k3 := HX2.out.cell (i := 3) rfl
      have HY := Lib.hid ((((HX2.out.set_ 0 (.int .i64 0)).set_ 1 (.int .i64 0)).set_ 2 (.string { data := #[] })).set_ 3 (.int .i64 0))
      have HBf := Lib.hid ((((HB.out.setCell (p := ⟨b2, 0, none⟩) Lb2.out (.int .i64 0)).setCell (p := ⟨b2, 1, none⟩) Lb2.out (.int .i64 0)).setCell (p := ⟨b2, 2, none⟩) Lb2.out (.string { data := #[] })).setCell (p := ⟨b2, 3, none⟩) Lb2.out (.int .i64 0))
      clear HG HX2
      go_wp2
      exact ret_whole2 rfl b2 rfl rfl HY.out Try.underlying37 rfl (by kernel_rfl) rfl ⟨rfl, HBf.out⟩
end Go.Proofs.Ytpindjknngcccaa

/- The document's At, times. -/
namespace Go.Proofs.Ytpindjknngcccaa
open Go.RowKit
set_option linter.unusedSimpArgs false
set_option linter.unusedVariables false

set_option maxRecDepth 100000 in
set_option maxHeartbeats 4000000 in
theorem rat_any (A : Option Addr) (n c : Nat) (Vs : List VC) (B : Option Addr) (m k : Nat) (Es : List EC) (x1 x2 x3 : Int) (w : World) (h : DgIn w A n c Vs B m k Es) (hn : n ≤ 140737488355328) (hr : ∀ y ∈ Vs, y.2.1.2.1 ≤ 5864062014634) :
    Calls Try.prog 21 #[.agg #[.slice A n c, .slice B m k], .agg #[.int .i64 x1, .int .i64 x2, .int .i64 x3]] w fun e w' =>
      e = .returned (.tuple #[.agg #[.int .i64 (atV Vs (x1, x2, x3)).1.1, .int .i64 (atV Vs (x1, x2, x3)).1.2], .bool (atV Vs (x1, x2, x3)).2]) ∧ Below w.heap.size w w' := by
  have H := Lib.hid h.v
  have HRg := Lib.hid h.r
  have Hhr := Lib.hid hr
  have Hl := Lib.hid (h.v.rlen vC_len (by decide))
  obtain ⟨⟨⟨r1, r2⟩, r3⟩, gr⟩ : ∃ z, atV Vs (x1, x2, x3) = z := ⟨_, rfl⟩
  rw [gr]
  have HG := Lib.hid gr
  clear h hr gr
  go_enter Try.func21, Try.ntmps21
  go_wp2
  have hx0 : Whole (((w.alloc (.cells #[.slice A n c, .slice B m k] 25)).alloc (.cells #[.int .i64 x1, .int .i64 x2, .int .i64 x3] 39)).alloc (.cells #[.int .i64 0, .int .i64 0] 35)) (w.heap.size) 25 [.slice A n c, .slice B m k] := (((Whole.new_ w 25 [.slice A n c, .slice B m k]).alloc (.cells #[.int .i64 x1, .int .i64 x2, .int .i64 x3] 39)).alloc (.cells #[.int .i64 0, .int .i64 0] 35))
  have hx1 : Whole (((w.alloc (.cells #[.slice A n c, .slice B m k] 25)).alloc (.cells #[.int .i64 x1, .int .i64 x2, .int .i64 x3] 39)).alloc (.cells #[.int .i64 0, .int .i64 0] 35)) (w.heap.size + 1) 39 [.int .i64 x1, .int .i64 x2, .int .i64 x3] := ((Whole.new2 (w := (w.alloc (.cells #[.slice A n c, .slice B m k] 25))) (by simp)).alloc (.cells #[.int .i64 0, .int .i64 0] 35))
  have hx2 : Whole (((w.alloc (.cells #[.slice A n c, .slice B m k] 25)).alloc (.cells #[.int .i64 x1, .int .i64 x2, .int .i64 x3] 39)).alloc (.cells #[.int .i64 0, .int .i64 0] 35)) (w.heap.size + 1 + 1) 35 [.int .i64 0, .int .i64 0] := (Whole.new2 (w := ((w.alloc (.cells #[.slice A n c, .slice B m k] 25)).alloc (.cells #[.int .i64 x1, .int .i64 x2, .int .i64 x3] 39))) (by simp))
  have hbl : Below w.heap.size w (((w.alloc (.cells #[.slice A n c, .slice B m k] 25)).alloc (.cells #[.int .i64 x1, .int .i64 x2, .int .i64 x3] 39)).alloc (.cells #[.int .i64 0, .int .i64 0] 35)) := (bel_al (bel_al (below1 w (.cells #[.slice A n c, .slice B m k] 25)) (.cells #[.int .i64 x1, .int .i64 x2, .int .i64 x3] 39)) (.cells #[.int .i64 0, .int .i64 0] 35))
  have hsz : w.heap.size + 1 + 1 + 1 ≤ ((((w.alloc (.cells #[.slice A n c, .slice B m k] 25)).alloc (.cells #[.int .i64 x1, .int .i64 x2, .int .i64 x3] 39)).alloc (.cells #[.int .i64 0, .int .i64 0] 35))).heap.size := by simp
  obtain ⟨W0, gW0⟩ : ∃ z, (((w.alloc (.cells #[.slice A n c, .slice B m k] 25)).alloc (.cells #[.int .i64 x1, .int .i64 x2, .int .i64 x3] 39)).alloc (.cells #[.int .i64 0, .int .i64 0] 35)) = z := ⟨_, rfl⟩
  rw [gW0] at hx0 hx1 hx2 hbl hsz
  obtain ⟨b2, gb2⟩ : ∃ z, w.heap.size + 1 + 1 = z := ⟨_, rfl⟩
  rw [gb2] at hx2
  obtain ⟨b1, gb1⟩ : ∃ z, w.heap.size + 1 = z := ⟨_, rfl⟩
  rw [gb1] at hx1
  obtain ⟨b0, gb0⟩ : ∃ z, w.heap.size = z := ⟨_, rfl⟩
  rw [gb0] at hx0
  have HX0 := Lib.hid hx0
  have HX1 := Lib.hid hx1
  have HX2 := Lib.hid hx2
  have HB0 := Lib.hid hbl
  have HS0 := Lib.hid hsz
  have Gb0 := Lib.hid gb0
  have Lb0 : RowKit.Hid (w.heap.size ≤ b0) := Lib.hid (by omega)
  have Gb1 := Lib.hid gb1
  have Lb1 : RowKit.Hid (w.heap.size ≤ b1) := Lib.hid (by omega)
  have Gb2 := Lib.hid gb2
  have Lb2 : RowKit.Hid (w.heap.size ≤ b2) := Lib.hid (by omega)
  have N01 : RowKit.Hid (b0 ≠ b1) := Lib.hid (by omega)
  have N02 : RowKit.Hid (b0 ≠ b2) := Lib.hid (by omega)
  have N12 : RowKit.Hid (b1 ≠ b2) := Lib.hid (by omega)
  rw [gW0, gb2, gb1, gb0]
  clear gW0 hbl hsz hx0 hx1 hx2 gb0 gb1 gb2
  go_loopw [6] (fun si wr => ∃ j : Nat, j ≤ n ∧ si = .int .i64 j ∧ RowKit.Hid (Below w.heap.size w wr) ∧ RowKit.Hid (Whole wr b0 25 [.slice A n c, .slice B m k]) ∧ RowKit.Hid (Whole wr b1 39 [.int .i64 x1, .int .i64 x2, .int .i64 x3]) ∧ RowKit.Hid (Whole wr b2 35 [.int .i64 0, .int .i64 0]) ∧ RowKit.Hid (atV (Vs.drop j) (x1, x2, x3) = ((r1, r2), r3))) (fun si _ => n - (intOf si).toNat)
  case atStart => exact ⟨0, by omega, rfl, HB0, HX0, HX1, HX2, HG⟩
  case round =>
    clear HB0 HX0 HX1 HX2 HG
    obtain ⟨j, hj, rfl, HB, HX0, HX1, HX2, HG⟩ := hrel
    obtain ⟨wo, gwo⟩ : ∃ z, wr = z := ⟨_, rfl⟩
    rw [gwo] at HB HX0 HX1 HX2 ⊢
    clear gwo
    by_cases hjn : j < n
    · obtain ⟨x, hx⟩ : ∃ x, Vs[j]? = some x := ⟨_, List.getElem?_eq_getElem (by have := Hl.out; omega)⟩
      have hdr : Vs.drop j = x :: Vs.drop (j + 1) := by
        rw [List.drop_eq_getElem_cons (List.getElem?_eq_some_iff.1 hx).1, (List.getElem?_eq_some_iff.1 hx).2]
      have hg2 := HG.out
      rw [hdr] at hg2
      have HG2 := Lib.hid hg2
      have hrg := HRg.out x (List.mem_of_getElem? hx)
      have hrn := Hhr.out x (List.mem_of_getElem? hx)
      obtain ⟨bb, off, rfl, hbB, hpl⟩ := H.out.place vC_len (by decide) (by omega)
      have Hbo : RowKit.Hid (bb < wo.heap.size) := Lib.hid (Nat.lt_of_lt_of_le hbB HB.out.size)
      have hbw := HB.out
      have q0 := hpl j _ hx 0 _ rfl
      have q1 := hpl j _ hx 1 _ rfl
      have q2 := hpl j _ hx 2 _ rfl
      have q3 := hpl j _ hx 3 _ rfl
      have q4 := hpl j _ hx 4 _ rfl
      simp only [Addr.add_lit, Nat.add_zero] at q0 q1 q2 q3 q4
      have l0 := (hbw.cell (p := ⟨bb, off + j * 5, none⟩) hbB).trans q0
      have l1 := (hbw.cell (p := ⟨bb, off + j * 5 + 1, none⟩) hbB).trans q1
      have l2 := (hbw.cell (p := ⟨bb, off + j * 5 + 2, none⟩) hbB).trans q2
      have l3 := (hbw.cell (p := ⟨bb, off + j * 5 + 3, none⟩) hbB).trans q3
      have l4 := (hbw.cell (p := ⟨bb, off + j * 5 + 4, none⟩) hbB).trans q4
      clear hbw q0 q1 q2 q3 q4
      obtain ⟨⟨i1, i2⟩, ⟨rA, rn, rc, rL⟩, lb, at_⟩ := x
      have hR : RdS w w.heap.size 3 rA rn rc (dartsV rL) := hrg.2
      replace hrn : rn ≤ 5864062014634 := hrn
      have hI : ∀ w', Kept Nil_ wo.drew w' → Calls Try.prog 27 #[.slice rA rn rc, .agg #[.int .i64 x1, .int .i64 x2, .int .i64 x3]] w' fun e w'' => e = .returned (.int .i64 (idxD rL (x1, x2, x3))) ∧ Below w'.heap.size w' w'' :=
        fun w' hk => rfindex_any rA rn rc rL (x1, x2, x3) w' ((hR.bl (bel_dr HB.out)).bl (hk.below (Nat.le_refl _) (fun _ _ h => h))) (by omega)
      have HI := Lib.hid hI
      have HE := Lib.hid (And.intro l0 l1)
      have cb := HX0.out.cell (i := 0) rfl
      clear hx hdr hg2 hpl hbB HG hrg hR hI l0 l1 l3 l4
      obtain ⟨ix, gix⟩ : ∃ z, idxD rL (x1, x2, x3) = z := ⟨_, rfl⟩
      rw [gix] at HI
      have Gix := Lib.hid gix
      clear gix
      go_upto_region 4 with fail
      clear cb
      have ldb : ∀ w', Kept Nil_ wo.drew w' → w'.cell? ⟨b0, 0, none⟩ = some (.slice (some ⟨bb, off, none⟩) n c) := fun w' h => h.nil_cell (HX0.out.dr.cell (i := 0) rfl)
      have ldx : ∀ w', Kept Nil_ wo.drew w' → w'.cell? ⟨b1, 0, none⟩ = some (.int .i64 x1) := fun w' h => h.nil_cell (HX1.out.dr.cell (i := 0) rfl)
      have ldy : ∀ w', Kept Nil_ wo.drew w' → w'.cell? ⟨b1, 1, none⟩ = some (.int .i64 x2) := fun w' h => h.nil_cell (HX1.out.dr.cell (i := 1) rfl)
      have ldz : ∀ w', Kept Nil_ wo.drew w' → w'.cell? ⟨b1, 2, none⟩ = some (.int .i64 x3) := fun w' h => h.nil_cell (HX1.out.dr.cell (i := 2) rfl)
      have ldr : ∀ w', Kept Nil_ wo.drew w' → w'.cell? ⟨bb, off + j * 5 + 2, none⟩ = some (.slice rA rn rc) := fun w' h => h.nil_cell (l2)
      clear l2
      refine wp_region_reg (Nil_) (by kernel_rfl) ?_
      apply wpR_next 0 (some 14)
      · simp only [List.getElem?_toArray, List.getElem?_cons_succ, List.getElem?_cons_zero]; exact rfl
      · rfl
      · kernel_rfl
      · kernel_rfl
      · kernel_rfl
      · exact fun _ _ _ _ h => h
      apply Exists.intro
      apply And.intro
      · apply yr_run; rfl; intro w' hw'; go_simp; (try with_reducible rfl)
      simp only [Act.put, List.setIfInBounds_toArray, List.set_cons_zero, List.set_cons_succ]
      apply wpR_next 1 (some 15)
      · simp only [List.getElem?_toArray, List.getElem?_cons_succ, List.getElem?_cons_zero]; exact rfl
      · rfl
      · kernel_rfl
      · kernel_rfl
      · kernel_rfl
      · exact fun _ _ _ _ h => h
      apply Exists.intro
      apply And.intro
      · apply yr_run; rfl; intro w' hw'; go_simp; (try with_reducible rfl)
      simp only [Act.put, List.setIfInBounds_toArray, List.set_cons_zero, List.set_cons_succ]
      apply wpR_next 2 (some 16)
      · simp only [List.getElem?_toArray, List.getElem?_cons_succ, List.getElem?_cons_zero]; exact rfl
      · rfl
      · kernel_rfl
      · kernel_rfl
      · kernel_rfl
      · exact fun _ _ _ _ h => h
      apply Exists.intro
      apply And.intro
      · apply yr_run; rfl; intro w' hw'; go_simp; (try with_reducible rfl)
      simp only [Act.put, List.setIfInBounds_toArray, List.set_cons_zero, List.set_cons_succ]
      apply wpR_next 3 (some 17)
      · simp only [List.getElem?_toArray, List.getElem?_cons_succ, List.getElem?_cons_zero]; exact rfl
      · rfl
      · kernel_rfl
      · kernel_rfl
      · kernel_rfl
      · exact fun _ _ _ _ h => h
      apply Exists.intro
      apply And.intro
      · apply yr_run; rfl; intro w' hw'; go_simp; (try with_reducible rfl)
      simp only [Act.put, List.setIfInBounds_toArray, List.set_cons_zero, List.set_cons_succ]
      apply wpR_next 4 (some 18)
      · simp only [List.getElem?_toArray, List.getElem?_cons_succ, List.getElem?_cons_zero]; exact rfl
      · rfl
      · kernel_rfl
      · kernel_rfl
      · kernel_rfl
      · exact fun _ _ _ _ h => h
      apply Exists.intro
      apply And.intro
      · apply yr_run; rfl; intro w' hw'; go_simp; (try with_reducible rfl)
      simp only [Act.put, List.setIfInBounds_toArray, List.set_cons_zero, List.set_cons_succ]
      apply wpR_next 5 (some 19)
      · simp only [List.getElem?_toArray, List.getElem?_cons_succ, List.getElem?_cons_zero]; exact rfl
      · rfl
      · kernel_rfl
      · kernel_rfl
      · kernel_rfl
      · exact fun _ _ _ _ h => h
      apply Exists.intro
      apply And.intro
      · apply yr_run; rfl; intro w' hw'; go_simp; (try with_reducible rfl)
      simp only [Act.put, List.setIfInBounds_toArray, List.set_cons_zero, List.set_cons_succ]
      apply wpR_next 6 (some 20)
      · simp only [List.getElem?_toArray, List.getElem?_cons_succ, List.getElem?_cons_zero]; exact rfl
      · rfl
      · kernel_rfl
      · kernel_rfl
      · kernel_rfl
      · exact fun _ _ _ _ h => h
      apply Exists.intro
      apply And.intro
      · apply yr_run; rfl; intro w' hw'; go_simp; (try with_reducible rfl)
      simp only [Act.put, List.setIfInBounds_toArray, List.set_cons_zero, List.set_cons_succ]
      apply wpR_next 7 (some 21)
      · simp only [List.getElem?_toArray, List.getElem?_cons_succ, List.getElem?_cons_zero]; exact rfl
      · rfl
      · kernel_rfl
      · kernel_rfl
      · kernel_rfl
      · exact fun _ _ _ _ h => h
      apply Exists.intro
      apply And.intro
      · apply yr_call; rfl; rotate_left; intro w' hw'; exact HI.out w' hw'; intro w'; go_simp
      simp only [Act.put, List.setIfInBounds_toArray, List.set_cons_zero, List.set_cons_succ]
      apply wpR_next 8 (some 22)
      · simp only [List.getElem?_toArray, List.getElem?_cons_succ, List.getElem?_cons_zero]; exact rfl
      · rfl
      · kernel_rfl
      · kernel_rfl
      · kernel_rfl
      · exact fun _ _ _ _ h => h
      apply Exists.intro
      apply And.intro
      · apply yr_run; rfl; intro w' hw'; go_simp; (try with_reducible rfl)
      simp only [Act.put, List.setIfInBounds_toArray, List.set_cons_zero, List.set_cons_succ]
      refine wpR_done (by kernel_rfl) ?_ _
      intro W3 hw3
      have HX03 := Lib.hid (HX0.out.dr.bl hw3)
      have HX13 := Lib.hid (HX1.out.dr.bl hw3)
      have HX23 := Lib.hid (HX2.out.dr.bl hw3)
      have HE3 : RowKit.Hid (Below wo.heap.size wo W3) := Lib.hid (bel_bl (bel_dr (Below.refl _ _)) hw3)
      have HB3 := Lib.hid (bel_bl HB.out HE3.out)
      clear hw3 ldb ldx ldy ldz ldr HB HX0 HX1 HX2 HI
      by_cases hmem : (x1, x2, x3) ∈ rL
      · have e1 : idxD rL (x1, x2, x3) = (rL.idxOf (x1, x2, x3) : Int) := by rw [idxD, if_pos hmem]
        have h0 : 0 ≤ ix := by rw [← Gix.out, e1]; omega
        have hG := HG2.out
        rw [atV_yes _ _ _ hmem] at hG
        simp only [Prod.mk.injEq] at hG
        obtain ⟨⟨rfl, rfl⟩, rfl⟩ := hG
        obtain ⟨l0, l1⟩ := HE.out
        have y0 := (HE3.out.cell (p := ⟨bb, off + j * 5, none⟩) Hbo.out).trans l0
        have y1 := (HE3.out.cell (p := ⟨bb, off + j * 5 + 1, none⟩) Hbo.out).trans l1
        have cb := HX03.out.cell (i := 0) rfl
        have f0 := HX23.out.free 0
        have f1 := HX23.out.free 1
        have k0 := HX23.out.cell (i := 0) rfl
        have k1 := HX23.out.cell (i := 1) rfl
        have HY := Lib.hid ((HX23.out.set_ 0 (.int .i64 i1)).set_ 1 (.int .i64 i2))
        have HBf := Lib.hid ((HB3.out.setCell (p := ⟨b2, 0, none⟩) Lb2.out (.int .i64 i1)).setCell (p := ⟨b2, 1, none⟩) Lb2.out (.int .i64 i2))
        clear HX23 HG2 HB3 HE HE3 l0 l1
        go_wp2
        exact ret_whole2 rfl b2 rfl rfl HY.out Try.underlying35 rfl (by kernel_rfl) rfl ⟨rfl, HBf.out⟩
      · have h0 : ¬ 0 ≤ ix := by rw [← Gix.out, show idxD rL (x1, x2, x3) = -1 by rw [idxD, if_neg hmem]]; omega
        have hG := HG2.out
        rw [atV_no _ _ _ hmem] at hG
        have HG4 := Lib.hid hG
        clear hG HG2 HE HE3
        go_wp2
        go_roundw
        case rel => exact ⟨j + 1, by omega, by go_num, HB3, HX03, HX13, HX23, HG4⟩
        case measure => simp [intOf]; omega
    · obtain rfl : n = j := by omega
      have hG := HG.out
      rw [List.drop_eq_nil_of_le (by have := Hl.out; omega)] at hG
      replace hG : (((0 : Int), (0 : Int)), false) = ((r1, r2), r3) := hG
      simp only [Prod.mk.injEq] at hG
      obtain ⟨⟨rfl, rfl⟩, rfl⟩ := hG
      have cb := HX0.out.cell (i := 0) rfl
      have f0 := HX2.out.free 0
      have f1 := HX2.out.free 1
      have k0 := HX2.out.cell (i := 0) rfl
      have k1 := HX2.out.cell (i := 1) rfl
      have HY := Lib.hid ((HX2.out.set_ 0 (.int .i64 0)).set_ 1 (.int .i64 0))
      have HBf := Lib.hid ((HB.out.setCell (p := ⟨b2, 0, none⟩) Lb2.out (.int .i64 0)).setCell (p := ⟨b2, 1, none⟩) Lb2.out (.int .i64 0))
      clear HG HX2
      go_wp2
      exact ret_whole2 rfl b2 rfl rfl HY.out Try.underlying35 rfl (by kernel_rfl) rfl ⟨rfl, HBf.out⟩
def timesV (Vs : List VC) (x : D) : Nat := (ringsOf Vs).count x
theorem timesV_next (Vs : List VC) (x : D) (j : Nat) (v : VC) (h : Vs[j]? = some v) : timesV (Vs.take (j + 1)) x = timesV (Vs.take j) x + v.2.1.2.2.2.count x := by
  have : Vs.take (j + 1) = Vs.take j ++ [v] := by rw [List.take_add_one, h]; rfl
  rw [timesV, timesV, this, ringsOf, List.flatMap_append, List.count_append]
  simp [ringsOf]
theorem count_next (L : List D) (x : D) (q : Nat) (d : D) (h : L[q]? = some d) : (L.take (q + 1)).count x = (L.take q).count x + if d = x then 1 else 0 := by
  have : L.take (q + 1) = L.take q ++ [d] := by rw [List.take_add_one, h]; rfl
  rw [this, List.count_append, List.count_singleton]
  simp
set_option maxRecDepth 100000 in
set_option maxHeartbeats 4000000 in
theorem rtimes_any (A : Option Addr) (n c : Nat) (Vs : List VC) (B : Option Addr) (m k : Nat) (Es : List EC) (x1 x2 x3 : Int) (w : World) (h : DgIn w A n c Vs B m k Es) (hn : n ≤ 10000) (hr : ∀ y ∈ Vs, y.2.1.2.1 ≤ 5864062014634) :
    Calls Try.prog 63 #[.agg #[.slice A n c, .slice B m k], .agg #[.int .i64 x1, .int .i64 x2, .int .i64 x3]] w fun e w' => e = .returned (.int .i64 (timesV Vs (x1, x2, x3) : Nat)) ∧ Below w.heap.size w w' := by
  have H := Lib.hid h.v
  have HRg := Lib.hid h.r
  have Hhr := Lib.hid hr
  have Hl := Lib.hid (h.v.rlen vC_len (by decide))
  obtain ⟨T, gT⟩ : ∃ z, timesV Vs (x1, x2, x3) = z := ⟨_, rfl⟩
  rw [gT]
  have GT := Lib.hid gT
  clear h hr gT
  go_enter Try.func63, Try.ntmps63
  go_wp2
  have hx0 : Whole ((w.alloc (.cells #[.slice A n c, .slice B m k] 25)).alloc (.cells #[.int .i64 x1, .int .i64 x2, .int .i64 x3] 39)) (w.heap.size) 25 [.slice A n c, .slice B m k] := ((Whole.new_ w 25 [.slice A n c, .slice B m k]).alloc (.cells #[.int .i64 x1, .int .i64 x2, .int .i64 x3] 39))
  have hx1 : Whole ((w.alloc (.cells #[.slice A n c, .slice B m k] 25)).alloc (.cells #[.int .i64 x1, .int .i64 x2, .int .i64 x3] 39)) (w.heap.size + 1) 39 [.int .i64 x1, .int .i64 x2, .int .i64 x3] := (Whole.new2 (w := (w.alloc (.cells #[.slice A n c, .slice B m k] 25))) (by simp))
  have hbl : Below w.heap.size w ((w.alloc (.cells #[.slice A n c, .slice B m k] 25)).alloc (.cells #[.int .i64 x1, .int .i64 x2, .int .i64 x3] 39)) := (bel_al (below1 w (.cells #[.slice A n c, .slice B m k] 25)) (.cells #[.int .i64 x1, .int .i64 x2, .int .i64 x3] 39))
  have hsz : w.heap.size + 1 + 1 ≤ (((w.alloc (.cells #[.slice A n c, .slice B m k] 25)).alloc (.cells #[.int .i64 x1, .int .i64 x2, .int .i64 x3] 39))).heap.size := by simp
  obtain ⟨W0, gW0⟩ : ∃ z, ((w.alloc (.cells #[.slice A n c, .slice B m k] 25)).alloc (.cells #[.int .i64 x1, .int .i64 x2, .int .i64 x3] 39)) = z := ⟨_, rfl⟩
  rw [gW0] at hx0 hx1 hbl hsz
  obtain ⟨b1, gb1⟩ : ∃ z, w.heap.size + 1 = z := ⟨_, rfl⟩
  rw [gb1] at hx1
  obtain ⟨b0, gb0⟩ : ∃ z, w.heap.size = z := ⟨_, rfl⟩
  rw [gb0] at hx0
  have HX0 := Lib.hid hx0
  have HX1 := Lib.hid hx1
  have HB0 := Lib.hid hbl
  have HS0 := Lib.hid hsz
  have Gb0 := Lib.hid gb0
  have Lb0 : RowKit.Hid (w.heap.size ≤ b0) := Lib.hid (by omega)
  have Gb1 := Lib.hid gb1
  have Lb1 : RowKit.Hid (w.heap.size ≤ b1) := Lib.hid (by omega)
  have N01 : RowKit.Hid (b0 ≠ b1) := Lib.hid (by omega)
  rw [gW0, gb1, gb0]
  clear gW0 hbl hsz hx0 hx1 gb0 gb1
  go_loopw [5, 6] (fun sn si wr => ∃ j t : Nat, j ≤ n ∧ t ≤ j * 5864062014634 ∧ si = .int .i64 j ∧ sn = .int .i64 t ∧ RowKit.Hid (Below w.heap.size w wr) ∧ RowKit.Hid (Whole wr b0 25 [.slice A n c, .slice B m k]) ∧ RowKit.Hid (Whole wr b1 39 [.int .i64 x1, .int .i64 x2, .int .i64 x3]) ∧ RowKit.Hid (timesV (Vs.take j) (x1, x2, x3) = t)) (fun _ si _ => n - (intOf si).toNat)
  case atStart => exact ⟨0, 0, by omega, by omega, rfl, rfl, HB0, HX0, HX1, Lib.hid rfl⟩
  case round =>
    clear HB0 HX0 HX1
    obtain ⟨j, t, hj, ht, rfl, rfl, HB, HX0, HX1, HG⟩ := hrel
    obtain ⟨wo, gwo⟩ : ∃ z, wr = z := ⟨_, rfl⟩
    rw [gwo] at HB HX0 HX1 ⊢
    clear gwo
    by_cases hjn : j < n
    · obtain ⟨x, hx⟩ : ∃ x, Vs[j]? = some x := ⟨_, List.getElem?_eq_getElem (by have := Hl.out; omega)⟩
      have HNx := Lib.hid (timesV_next Vs (x1, x2, x3) j x hx)
      have hrg := HRg.out x (List.mem_of_getElem? hx)
      have hrn := Hhr.out x (List.mem_of_getElem? hx)
      obtain ⟨bb, off, rfl, hbB, hpl⟩ := H.out.place vC_len (by decide) (by omega)
      have q2 := hpl j _ hx 2 _ rfl
      simp only [Addr.add_lit, Nat.add_zero] at q2
      obtain ⟨⟨i1, i2⟩, ⟨rA, rn, rc, rL⟩, lb, at_⟩ := x
      have hR0 : RdS w w.heap.size 3 rA rn rc (dartsV rL) := hrg.2
      replace q2 : w.cell? ⟨bb, off + j * 5 + 2, none⟩ = some (.slice rA rn rc) := q2
      rw [dartsV_rows] at hR0
      have HR := Lib.hid hR0
      have Hrl := Lib.hid (hR0.rlen dC_len (by decide))
      replace hrn : rn ≤ 5864062014634 := hrn
      replace HNx : RowKit.Hid (timesV (Vs.take (j + 1)) (x1, x2, x3) = timesV (Vs.take j) (x1, x2, x3) + rL.count (x1, x2, x3)) := HNx
      have Q2 := Lib.hid q2
      have HbB := Lib.hid hbB
      have cb := HX0.out.cell (i := 0) rfl
      clear hx hpl hbB hrg hR0 q2
      go_wp2
      clear cb
      go_loopw [5, 7] (fun sn si wr => ∃ q t' : Nat, q ≤ rn ∧ t' ≤ t + q ∧ si = .int .i64 q ∧ sn = .int .i64 t' ∧ RowKit.Hid (Below w.heap.size w wr) ∧ RowKit.Hid (Whole wr b0 25 [.slice (some ⟨bb, off, none⟩) n c, .slice B m k]) ∧ RowKit.Hid (Whole wr b1 39 [.int .i64 x1, .int .i64 x2, .int .i64 x3]) ∧ RowKit.Hid (t + (rL.take q).count (x1, x2, x3) = t')) (fun _ si _ => rn - (intOf si).toNat)
      case atStart => exact ⟨0, t, by omega, by omega, rfl, rfl, HB, HX0, HX1, Lib.hid (by simp)⟩
      case round =>
        clear HB HX0 HX1
        obtain ⟨q, t', hq, ht', rfl, rfl, HZ, HY0, HY1, HI⟩ := hrel
        obtain ⟨wi, gwi⟩ : ∃ z, wr = z := ⟨_, rfl⟩
        rw [gwi] at HZ HY0 HY1 ⊢
        clear gwi
        have y2 := (HZ.out.cell (p := ⟨bb, off + j * 5 + 2, none⟩) HbB.out).trans Q2.out
        have cb := HY0.out.cell (i := 0) rfl
        by_cases hqn : q < rn
        · obtain ⟨d, hd⟩ : ∃ d, rL[q]? = some d := ⟨_, List.getElem?_eq_getElem (by have := Hrl.out; omega)⟩
          have hcn := count_next rL (x1, x2, x3) q d hd
          obtain ⟨rb, ro, rfl, hrB, hrpl⟩ := HR.out.place dC_len (by decide) (by omega)
          have p0 := hrpl q _ hd 0 _ rfl
          have p1 := hrpl q _ hd 1 _ rfl
          have p2 := hrpl q _ hd 2 _ rfl
          simp only [Addr.add_lit, Nat.add_zero] at p0 p1 p2
          have e0 := (HZ.out.cell (p := ⟨rb, ro + q * 3, none⟩) hrB).trans p0
          have e1 := (HZ.out.cell (p := ⟨rb, ro + q * 3 + 1, none⟩) hrB).trans p1
          have e2 := (HZ.out.cell (p := ⟨rb, ro + q * 3 + 2, none⟩) hrB).trans p2
          obtain ⟨d1, d2, d3⟩ := d
          have HCn := Lib.hid hcn
          clear hd hcn hrB hrpl p0 p1 p2
          go_upto_region 8 with fail
          clear cb
          have ldb : ∀ w', Kept Nil_ wi.drew w' → w'.cell? ⟨b0, 0, none⟩ = some (.slice (some ⟨bb, off, none⟩) n c) := fun w' h => h.nil_cell (HY0.out.dr.cell (i := 0) rfl)
          have ldx : ∀ w', Kept Nil_ wi.drew w' → w'.cell? ⟨b1, 0, none⟩ = some (.int .i64 x1) := fun w' h => h.nil_cell (HY1.out.dr.cell (i := 0) rfl)
          have ldy : ∀ w', Kept Nil_ wi.drew w' → w'.cell? ⟨b1, 1, none⟩ = some (.int .i64 x2) := fun w' h => h.nil_cell (HY1.out.dr.cell (i := 1) rfl)
          have ldz : ∀ w', Kept Nil_ wi.drew w' → w'.cell? ⟨b1, 2, none⟩ = some (.int .i64 x3) := fun w' h => h.nil_cell (HY1.out.dr.cell (i := 2) rfl)
          have ldr : ∀ w', Kept Nil_ wi.drew w' → w'.cell? ⟨bb, off + j * 5 + 2, none⟩ = some (.slice (some ⟨rb, ro, none⟩) rn rc) := fun w' h => h.nil_cell (y2)
          have ld0 : ∀ w', Kept Nil_ wi.drew w' → w'.cell? ⟨rb, ro + q * 3, none⟩ = some (.int .i64 d1) := fun w' h => h.nil_cell (e0)
          have ld1 : ∀ w', Kept Nil_ wi.drew w' → w'.cell? ⟨rb, ro + q * 3 + 1, none⟩ = some (.int .i64 d2) := fun w' h => h.nil_cell (e1)
          have ld2 : ∀ w', Kept Nil_ wi.drew w' → w'.cell? ⟨rb, ro + q * 3 + 2, none⟩ = some (.int .i64 d3) := fun w' h => h.nil_cell (e2)
          clear y2 e0 e1 e2
          have heq := fun W => eq_dart_run (d1, d2, d3) (x1, x2, x3) W
          obtain ⟨bq, gbq⟩ : ∃ z, decide ((d1, d2, d3) = (x1, x2, x3)) = z := ⟨_, rfl⟩
          rw [gbq] at heq
          have Gbq := Lib.hid gbq
          clear gbq
          refine wp_region_reg (Nil_) (by kernel_rfl) ?_
          apply wpR_next 0 (some 26)
          · simp only [List.getElem?_toArray, List.getElem?_cons_succ, List.getElem?_cons_zero]; exact rfl
          · rfl
          · kernel_rfl
          · kernel_rfl
          · kernel_rfl
          · exact fun _ _ _ _ h => h
          apply Exists.intro
          apply And.intro
          · apply yr_run; rfl; intro w' hw'; go_simp; (try with_reducible rfl)
          simp only [Act.put, List.setIfInBounds_toArray, List.set_cons_zero, List.set_cons_succ]
          apply wpR_next 1 (some 27)
          · simp only [List.getElem?_toArray, List.getElem?_cons_succ, List.getElem?_cons_zero]; exact rfl
          · rfl
          · kernel_rfl
          · kernel_rfl
          · kernel_rfl
          · exact fun _ _ _ _ h => h
          apply Exists.intro
          apply And.intro
          · apply yr_run; rfl; intro w' hw'; go_simp; (try with_reducible rfl)
          simp only [Act.put, List.setIfInBounds_toArray, List.set_cons_zero, List.set_cons_succ]
          apply wpR_next 2 (some 28)
          · simp only [List.getElem?_toArray, List.getElem?_cons_succ, List.getElem?_cons_zero]; exact rfl
          · rfl
          · kernel_rfl
          · kernel_rfl
          · kernel_rfl
          · exact fun _ _ _ _ h => h
          apply Exists.intro
          apply And.intro
          · apply yr_run; rfl; intro w' hw'; go_simp; (try with_reducible rfl)
          simp only [Act.put, List.setIfInBounds_toArray, List.set_cons_zero, List.set_cons_succ]
          apply wpR_next 3 (some 29)
          · simp only [List.getElem?_toArray, List.getElem?_cons_succ, List.getElem?_cons_zero]; exact rfl
          · rfl
          · kernel_rfl
          · kernel_rfl
          · kernel_rfl
          · exact fun _ _ _ _ h => h
          apply Exists.intro
          apply And.intro
          · apply yr_run; rfl; intro w' hw'; go_simp; (try with_reducible rfl)
          simp only [Act.put, List.setIfInBounds_toArray, List.set_cons_zero, List.set_cons_succ]
          apply wpR_next 4 (some 30)
          · simp only [List.getElem?_toArray, List.getElem?_cons_succ, List.getElem?_cons_zero]; exact rfl
          · rfl
          · kernel_rfl
          · kernel_rfl
          · kernel_rfl
          · exact fun _ _ _ _ h => h
          apply Exists.intro
          apply And.intro
          · apply yr_run; rfl; intro w' hw'; go_simp; (try with_reducible rfl)
          simp only [Act.put, List.setIfInBounds_toArray, List.set_cons_zero, List.set_cons_succ]
          apply wpR_next 5 (some 31)
          · simp only [List.getElem?_toArray, List.getElem?_cons_succ, List.getElem?_cons_zero]; exact rfl
          · rfl
          · kernel_rfl
          · kernel_rfl
          · kernel_rfl
          · exact fun _ _ _ _ h => h
          apply Exists.intro
          apply And.intro
          · apply yr_run; rfl; intro w' hw'; go_simp; (try with_reducible rfl)
          simp only [Act.put, List.setIfInBounds_toArray, List.set_cons_zero, List.set_cons_succ]
          apply wpR_next 6 (some 32)
          · simp only [List.getElem?_toArray, List.getElem?_cons_succ, List.getElem?_cons_zero]; exact rfl
          · rfl
          · kernel_rfl
          · kernel_rfl
          · kernel_rfl
          · exact fun _ _ _ _ h => h
          apply Exists.intro
          apply And.intro
          · apply yr_run; rfl; intro w' hw'; go_simp; (try with_reducible rfl)
          simp only [Act.put, List.setIfInBounds_toArray, List.set_cons_zero, List.set_cons_succ]
          apply wpR_next 7 (some 33)
          · simp only [List.getElem?_toArray, List.getElem?_cons_succ, List.getElem?_cons_zero]; exact rfl
          · rfl
          · kernel_rfl
          · kernel_rfl
          · kernel_rfl
          · exact fun _ _ _ _ h => h
          apply Exists.intro
          apply And.intro
          · apply yr_run; rfl; intro w' hw'; go_simp; (try with_reducible rfl)
          simp only [Act.put, List.setIfInBounds_toArray, List.set_cons_zero, List.set_cons_succ]
          apply wpR_next 8 (some 34)
          · simp only [List.getElem?_toArray, List.getElem?_cons_succ, List.getElem?_cons_zero]; exact rfl
          · rfl
          · kernel_rfl
          · kernel_rfl
          · kernel_rfl
          · exact fun _ _ _ _ h => h
          apply Exists.intro
          apply And.intro
          · apply yr_run; rfl; intro w' hw'; go_simp; (try with_reducible rfl)
          simp only [Act.put, List.setIfInBounds_toArray, List.set_cons_zero, List.set_cons_succ]
          apply wpR_next 9 (some 35)
          · simp only [List.getElem?_toArray, List.getElem?_cons_succ, List.getElem?_cons_zero]; exact rfl
          · rfl
          · kernel_rfl
          · kernel_rfl
          · kernel_rfl
          · exact fun _ _ _ _ h => h
          apply Exists.intro
          apply And.intro
          · apply yr_run; rfl; intro w' hw'; go_simp; (try with_reducible rfl)
          simp only [Act.put, List.setIfInBounds_toArray, List.set_cons_zero, List.set_cons_succ]
          apply wpR_next 10 (some 36)
          · simp only [List.getElem?_toArray, List.getElem?_cons_succ, List.getElem?_cons_zero]; exact rfl
          · rfl
          · kernel_rfl
          · kernel_rfl
          · kernel_rfl
          · exact fun _ _ _ _ h => h
          apply Exists.intro
          apply And.intro
          · exact yr_run (by rfl) (fun w' hw' => exec_binop_agg .eql 39 (.tmp 34) (.tmp 35) 39 rfl rfl rfl (by kernel_rfl) (heq w'))
          simp only [Act.put, List.setIfInBounds_toArray, List.set_cons_zero, List.set_cons_succ]
          refine wpR_done (by kernel_rfl) ?_ _
          intro W3 hw3
          have HX03 := Lib.hid (HY0.out.dr.bl hw3)
          have HX13 := Lib.hid (HY1.out.dr.bl hw3)
          have HB3 := Lib.hid (bel_bl (bel_dr HZ.out) hw3)
          clear hw3 ldb ldx ldy ldz ldr ld0 ld1 ld2 HZ HY0 HY1 heq
          cases bq with
          | true =>
            have HI3 : RowKit.Hid (t + (rL.take (q + 1)).count (x1, x2, x3) = t' + 1) := Lib.hid (by
              have h1 := HCn.out
              rw [if_pos (of_decide_eq_true Gbq.out)] at h1
              have h2 := HI.out
              omega)
            clear HI
            go_wp2
            go_roundw
            case rel => exact ⟨q + 1, t' + 1, by omega, by omega, by go_num, by go_num, HB3, HX03, HX13, HI3⟩
            case measure => simp [intOf]; omega
          | false =>
            have HI3 : RowKit.Hid (t + (rL.take (q + 1)).count (x1, x2, x3) = t') := Lib.hid (by
              have h1 := HCn.out
              rw [if_neg (of_decide_eq_false Gbq.out)] at h1
              have h2 := HI.out
              omega)
            clear HI
            go_wp2
            go_roundw
            case rel => exact ⟨q + 1, t', by omega, by omega, by go_num, by first | rfl | go_num, HB3, HX03, HX13, HI3⟩
            case measure => simp [intOf]; omega
        · obtain rfl : rn = q := by omega
          have HG3 : RowKit.Hid (timesV (Vs.take (j + 1)) (x1, x2, x3) = t') := Lib.hid (by
            rw [HNx.out, HG.out]
            have h1 := HI.out
            rw [List.take_of_length_le (by have := Hrl.out; omega)] at h1
            exact h1)
          clear HI HG
          go_wp2
          go_roundw
          case rel => exact ⟨j + 1, t', by omega, by omega, by go_num, rfl, HZ, HY0, HY1, HG3⟩
          case measure => simp [intOf]; omega
    · obtain rfl : n = j := by omega
      have hT : T = t := by
        have h1 := HG.out
        rw [List.take_of_length_le (by have := Hl.out; omega), GT.out] at h1
        exact h1
      subst hT
      have cb := HX0.out.cell (i := 0) rfl
      clear HG GT
      go_wp2
      go_ret
      exact ⟨rfl, HB.out⟩
end Go.Proofs.Ytpindjknngcccaa

/- The document's rise, IDs, Names. -/
namespace Go.Proofs.Ytpindjknngcccaa
open Go.RowKit
set_option linter.unusedSimpArgs false
set_option linter.unusedVariables false

set_option maxRecDepth 100000 in
set_option maxHeartbeats 4000000 in
theorem rrise_any (A : Option Addr) (n c : Nat) (L : List (Int × Int)) (w : World) (h : RdS w w.heap.size 2 A n c (rowsV idC L)) (hn : n ≤ 1000000) :
    Calls Try.prog 34 #[.slice A n c] w fun e w' => e = .returned (.bool (riseF none L)) ∧ Below w.heap.size w w' := by
  have H := Lib.hid h
  have Hl := Lib.hid (h.rlen idC_len (by decide))
  obtain ⟨b, gb⟩ : ∃ z, riseF none L = z := ⟨_, rfl⟩
  rw [gb]
  have HG0 := Lib.hid gb
  clear h gb
  go_enter Try.func34, Try.ntmps34
  go_wp2
  go_loopw [3] (fun si wr => ∃ (j : Nat) (o : Option (Int × Int)), j ≤ n ∧ si = .int .i64 j ∧ RowKit.Hid (Below w.heap.size w wr) ∧ RowKit.Hid ((o = none ↔ j = 0) ∧ ∀ y, o = some y → L[j - 1]? = some y) ∧ RowKit.Hid (riseF o (L.drop j) = b)) (fun si _ => n - (intOf si).toNat)
  case atStart => exact ⟨0, none, by omega, rfl, Lib.hid (Below.refl _ _), Lib.hid ⟨by simp, fun y h => (by cases h)⟩, HG0⟩
  case round =>
    clear HG0
    obtain ⟨j, o, hj, rfl, HB, HO, HG⟩ := hrel
    obtain ⟨wo, gwo⟩ : ∃ z, wr = z := ⟨_, rfl⟩
    rw [gwo] at HB ⊢
    clear gwo
    by_cases hjn : j < n
    · obtain ⟨x, hx⟩ : ∃ x, L[j]? = some x := ⟨_, List.getElem?_eq_getElem (by have := Hl.out; omega)⟩
      have hdr : L.drop j = x :: L.drop (j + 1) := by
        rw [List.drop_eq_getElem_cons (List.getElem?_eq_some_iff.1 hx).1, (List.getElem?_eq_some_iff.1 hx).2]
      have hg2 := HG.out
      rw [hdr] at hg2
      have HG2 := Lib.hid hg2
      have HXo : RowKit.Hid ((some x = none ↔ j + 1 = 0) ∧ ∀ y, some x = some y → L[j + 1 - 1]? = some y) := Lib.hid ⟨by simp, fun y e => by rw [← e]; exact hx⟩
      obtain ⟨bb, off, rfl, hbB, hpl⟩ := H.out.place idC_len (by decide) (by omega)
      have HbB := Lib.hid hbB
      have HPL := Lib.hid hpl
      have hbw := HB.out
      have q0 := hpl j _ hx 0 _ rfl
      have q1 := hpl j _ hx 1 _ rfl
      simp only [Addr.add_lit, Nat.add_zero] at q0 q1
      have l0 := (hbw.cell (p := ⟨bb, off + j * 2, none⟩) hbB).trans q0
      have l1 := (hbw.cell (p := ⟨bb, off + j * 2 + 1, none⟩) hbB).trans q1
      clear hbw
      obtain ⟨i1, i2⟩ := x
      have Q := Lib.hid (And.intro q0 q1)
      clear hx hdr hg2 hbB hpl q0 q1 HG
      go_wp2_with fail
      refine (rmay_any i1 i2 _).mono ?_
      rintro e W2 ⟨rfl, hb⟩
      have HB2 := Lib.hid (bel_bl HB.out hb)
      clear hb l0 l1 HB
      obtain ⟨bm, gbm⟩ : ∃ z, mayI i1 i2 = z := ⟨_, rfl⟩
      rw [gbm]
      have Gbm := Lib.hid gbm
      clear gbm
      cases bm with
      | false =>
        have hb0 : b = false := by
          rw [← HG2.out]; simp [riseF, Gbm.out]
        subst hb0
        go_upto_region 5 with fail
        refine wp_region_reg (Nil_) (by kernel_rfl) ?_
        apply wpR_next 0 (some 16)
        · simp only [List.getElem?_toArray, List.getElem?_cons_succ, List.getElem?_cons_zero]; exact rfl
        · rfl
        · kernel_rfl
        · kernel_rfl
        · kernel_rfl
        · exact fun _ _ _ _ h => h
        apply Exists.intro
        apply And.intro
        · apply yr_run; rfl; intro w' hw'; go_simp; (try with_reducible rfl)
        simp only [Act.put, List.setIfInBounds_toArray, List.set_cons_zero, List.set_cons_succ]
        apply wpR_next 1 (some 17)
        · simp only [List.getElem?_toArray, List.getElem?_cons_succ, List.getElem?_cons_zero]; exact rfl
        · rfl
        · kernel_rfl
        · kernel_rfl
        · kernel_rfl
        · exact fun _ _ _ _ h => h
        apply Exists.intro
        apply And.intro
        · apply yr_run; rfl; intro w' hw'; go_simp; (try with_reducible rfl)
        simp only [Act.put, List.setIfInBounds_toArray, List.set_cons_zero, List.set_cons_succ]
        apply wpR_next 2 (some 18)
        · simp only [List.getElem?_toArray, List.getElem?_cons_succ, List.getElem?_cons_zero]; exact rfl
        · rfl
        · kernel_rfl
        · kernel_rfl
        · kernel_rfl
        · exact fun _ _ _ _ h => h
        apply Exists.intro
        apply And.intro
        · apply yr_run; rfl; intro w' hw'; go_simp; (try with_reducible rfl)
        simp only [Act.put, List.setIfInBounds_toArray, List.set_cons_zero, List.set_cons_succ]
        apply wpR_next 3 (some 19)
        · simp only [List.getElem?_toArray, List.getElem?_cons_succ, List.getElem?_cons_zero]; exact rfl
        · rfl
        · kernel_rfl
        · kernel_rfl
        · kernel_rfl
        · exact fun _ _ _ _ h => h
        apply Exists.intro
        apply And.intro
        · exact yr_skip (by rfl)
        simp only [Act.put, List.setIfInBounds_toArray, List.set_cons_zero, List.set_cons_succ]
        apply wpR_next 4 (some 20)
        · simp only [List.getElem?_toArray, List.getElem?_cons_succ, List.getElem?_cons_zero]; exact rfl
        · rfl
        · kernel_rfl
        · kernel_rfl
        · kernel_rfl
        · exact fun _ _ _ _ h => h
        apply Exists.intro
        apply And.intro
        · exact yr_skip (by rfl)
        simp only [Act.put, List.setIfInBounds_toArray, List.set_cons_zero, List.set_cons_succ]
        apply wpR_next 5 (some 21)
        · simp only [List.getElem?_toArray, List.getElem?_cons_succ, List.getElem?_cons_zero]; exact rfl
        · rfl
        · kernel_rfl
        · kernel_rfl
        · kernel_rfl
        · exact fun _ _ _ _ h => h
        apply Exists.intro
        apply And.intro
        · exact yr_skip (by rfl)
        simp only [Act.put, List.setIfInBounds_toArray, List.set_cons_zero, List.set_cons_succ]
        apply wpR_next 6 (some 22)
        · simp only [List.getElem?_toArray, List.getElem?_cons_succ, List.getElem?_cons_zero]; exact rfl
        · rfl
        · kernel_rfl
        · kernel_rfl
        · kernel_rfl
        · exact fun _ _ _ _ h => h
        apply Exists.intro
        apply And.intro
        · exact yr_skip (by rfl)
        simp only [Act.put, List.setIfInBounds_toArray, List.set_cons_zero, List.set_cons_succ]
        apply wpR_next 7 (some 23)
        · simp only [List.getElem?_toArray, List.getElem?_cons_succ, List.getElem?_cons_zero]; exact rfl
        · rfl
        · kernel_rfl
        · kernel_rfl
        · kernel_rfl
        · exact fun _ _ _ _ h => h
        apply Exists.intro
        apply And.intro
        · exact yr_skip (by rfl)
        simp only [Act.put, List.setIfInBounds_toArray, List.set_cons_zero, List.set_cons_succ]
        apply wpR_next 8 (some 24)
        · simp only [List.getElem?_toArray, List.getElem?_cons_succ, List.getElem?_cons_zero]; exact rfl
        · rfl
        · kernel_rfl
        · kernel_rfl
        · kernel_rfl
        · exact fun _ _ _ _ h => h
        apply Exists.intro
        apply And.intro
        · exact yr_skip (by rfl)
        simp only [Act.put, List.setIfInBounds_toArray, List.set_cons_zero, List.set_cons_succ]
        apply wpR_next 9 (some 25)
        · simp only [List.getElem?_toArray, List.getElem?_cons_succ, List.getElem?_cons_zero]; exact rfl
        · rfl
        · kernel_rfl
        · kernel_rfl
        · kernel_rfl
        · exact fun _ _ _ _ h => h
        apply Exists.intro
        apply And.intro
        · exact yr_skip (by rfl)
        simp only [Act.put, List.setIfInBounds_toArray, List.set_cons_zero, List.set_cons_succ]
        apply wpR_next 10 (some 26)
        · simp only [List.getElem?_toArray, List.getElem?_cons_succ, List.getElem?_cons_zero]; exact rfl
        · rfl
        · kernel_rfl
        · kernel_rfl
        · kernel_rfl
        · exact fun _ _ _ _ h => h
        apply Exists.intro
        apply And.intro
        · exact yr_skip (by rfl)
        simp only [Act.put, List.setIfInBounds_toArray, List.set_cons_zero, List.set_cons_succ]
        apply wpR_next 11 (some 27)
        · simp only [List.getElem?_toArray, List.getElem?_cons_succ, List.getElem?_cons_zero]; exact rfl
        · rfl
        · kernel_rfl
        · kernel_rfl
        · kernel_rfl
        · exact fun _ _ _ _ h => h
        apply Exists.intro
        apply And.intro
        · exact yr_skip (by rfl)
        simp only [Act.put, List.setIfInBounds_toArray, List.set_cons_zero, List.set_cons_succ]
        apply wpR_next 12 (some 28)
        · simp only [List.getElem?_toArray, List.getElem?_cons_succ, List.getElem?_cons_zero]; exact rfl
        · rfl
        · kernel_rfl
        · kernel_rfl
        · kernel_rfl
        · exact fun _ _ _ _ h => h
        apply Exists.intro
        apply And.intro
        · exact yr_skip (by rfl)
        simp only [Act.put, List.setIfInBounds_toArray, List.set_cons_zero, List.set_cons_succ]
        apply wpR_next 13 (some 29)
        · simp only [List.getElem?_toArray, List.getElem?_cons_succ, List.getElem?_cons_zero]; exact rfl
        · rfl
        · kernel_rfl
        · kernel_rfl
        · kernel_rfl
        · exact fun _ _ _ _ h => h
        apply Exists.intro
        apply And.intro
        · exact yr_skip (by rfl)
        simp only [Act.put, List.setIfInBounds_toArray, List.set_cons_zero, List.set_cons_succ]
        apply wpR_next 14 (some 30)
        · simp only [List.getElem?_toArray, List.getElem?_cons_succ, List.getElem?_cons_zero]; exact rfl
        · rfl
        · kernel_rfl
        · kernel_rfl
        · kernel_rfl
        · exact fun _ _ _ _ h => h
        apply Exists.intro
        apply And.intro
        · exact yr_skip (by rfl)
        simp only [Act.put, List.setIfInBounds_toArray, List.set_cons_zero, List.set_cons_succ]
        apply wpR_next 15 (some 31)
        · simp only [List.getElem?_toArray, List.getElem?_cons_succ, List.getElem?_cons_zero]; exact rfl
        · rfl
        · kernel_rfl
        · kernel_rfl
        · kernel_rfl
        · exact fun _ _ _ _ h => h
        apply Exists.intro
        apply And.intro
        · exact yr_skip (by rfl)
        simp only [Act.put, List.setIfInBounds_toArray, List.set_cons_zero, List.set_cons_succ]
        apply wpR_next 16 (some 32)
        · simp only [List.getElem?_toArray, List.getElem?_cons_succ, List.getElem?_cons_zero]; exact rfl
        · rfl
        · kernel_rfl
        · kernel_rfl
        · kernel_rfl
        · exact fun _ _ _ _ h => h
        apply Exists.intro
        apply And.intro
        · exact yr_skip (by rfl)
        simp only [Act.put, List.setIfInBounds_toArray, List.set_cons_zero, List.set_cons_succ]
        apply wpR_next 17 (some 33)
        · simp only [List.getElem?_toArray, List.getElem?_cons_succ, List.getElem?_cons_zero]; exact rfl
        · rfl
        · kernel_rfl
        · kernel_rfl
        · kernel_rfl
        · exact fun _ _ _ _ h => h
        apply Exists.intro
        apply And.intro
        · exact yr_skip (by rfl)
        simp only [Act.put, List.setIfInBounds_toArray, List.set_cons_zero, List.set_cons_succ]
        apply wpR_next 18 (some 34)
        · simp only [List.getElem?_toArray, List.getElem?_cons_succ, List.getElem?_cons_zero]; exact rfl
        · rfl
        · kernel_rfl
        · kernel_rfl
        · kernel_rfl
        · exact fun _ _ _ _ h => h
        apply Exists.intro
        apply And.intro
        · apply yr_run; rfl; intro w' hw'; go_simp; (try with_reducible rfl)
        simp only [Act.put, List.setIfInBounds_toArray, List.set_cons_zero, List.set_cons_succ]
        refine wpR_done (by kernel_rfl) ?_ _
        intro W3 hw3
        have HB3 := Lib.hid (bel_bl (bel_dr HB2.out) hw3)
        clear hw3
        go_wp2
        go_ret
        exact ⟨rfl, HB3.out⟩
      | true =>
        rcases Nat.eq_zero_or_pos j with rfl | hj0
        · obtain rfl : o = none := HO.out.1.2 rfl
          have HG3 : RowKit.Hid (riseF (some (i1, i2)) (L.drop (0 + 1)) = b) := Lib.hid (by rw [← HG2.out]; simp [riseF, Gbm.out])
          rw [show ((0 : Nat) : Int) = 0 from rfl]
          go_upto_region 5 with fail
          refine wp_region_reg (Nil_) (by kernel_rfl) ?_
          apply wpR_next 0 (some 16)
          · simp only [List.getElem?_toArray, List.getElem?_cons_succ, List.getElem?_cons_zero]; exact rfl
          · rfl
          · kernel_rfl
          · kernel_rfl
          · kernel_rfl
          · exact fun _ _ _ _ h => h
          apply Exists.intro
          apply And.intro
          · apply yr_run; rfl; intro w' hw'; go_simp; (try with_reducible rfl)
          simp only [Act.put, List.setIfInBounds_toArray, List.set_cons_zero, List.set_cons_succ]
          apply wpR_next 1 (some 17)
          · simp only [List.getElem?_toArray, List.getElem?_cons_succ, List.getElem?_cons_zero]; exact rfl
          · rfl
          · kernel_rfl
          · kernel_rfl
          · kernel_rfl
          · exact fun _ _ _ _ h => h
          apply Exists.intro
          apply And.intro
          · apply yr_run; rfl; intro w' hw'; go_simp; (try with_reducible rfl)
          simp only [Act.put, List.setIfInBounds_toArray, List.set_cons_zero, List.set_cons_succ]
          apply wpR_next 2 (some 18)
          · simp only [List.getElem?_toArray, List.getElem?_cons_succ, List.getElem?_cons_zero]; exact rfl
          · rfl
          · kernel_rfl
          · kernel_rfl
          · kernel_rfl
          · exact fun _ _ _ _ h => h
          apply Exists.intro
          apply And.intro
          · apply yr_run; rfl; intro w' hw'; go_simp; (try with_reducible rfl)
          simp only [Act.put, List.setIfInBounds_toArray, List.set_cons_zero, List.set_cons_succ]
          apply wpR_next 3 (some 19)
          · simp only [List.getElem?_toArray, List.getElem?_cons_succ, List.getElem?_cons_zero]; exact rfl
          · rfl
          · kernel_rfl
          · kernel_rfl
          · kernel_rfl
          · exact fun _ _ _ _ h => h
          apply Exists.intro
          apply And.intro
          · apply yr_run; rfl; intro w' hw'; go_simp; (try with_reducible rfl)
          simp only [Act.put, List.setIfInBounds_toArray, List.set_cons_zero, List.set_cons_succ]
          apply wpR_next 4 (some 20)
          · simp only [List.getElem?_toArray, List.getElem?_cons_succ, List.getElem?_cons_zero]; exact rfl
          · rfl
          · kernel_rfl
          · kernel_rfl
          · kernel_rfl
          · exact fun _ _ _ _ h => h
          apply Exists.intro
          apply And.intro
          · apply yr_run; rfl; intro w' hw'; go_simp; (try with_reducible rfl)
          simp only [Act.put, List.setIfInBounds_toArray, List.set_cons_zero, List.set_cons_succ]
          apply wpR_next 5 (some 21)
          · simp only [List.getElem?_toArray, List.getElem?_cons_succ, List.getElem?_cons_zero]; exact rfl
          · rfl
          · kernel_rfl
          · kernel_rfl
          · kernel_rfl
          · exact fun _ _ _ _ h => h
          apply Exists.intro
          apply And.intro
          · apply yr_run; rfl; intro w' hw'; go_simp; (try with_reducible rfl)
          simp only [Act.put, List.setIfInBounds_toArray, List.set_cons_zero, List.set_cons_succ]
          apply wpR_next 6 (some 22)
          · simp only [List.getElem?_toArray, List.getElem?_cons_succ, List.getElem?_cons_zero]; exact rfl
          · rfl
          · kernel_rfl
          · kernel_rfl
          · kernel_rfl
          · exact fun _ _ _ _ h => h
          apply Exists.intro
          apply And.intro
          · exact yr_skip (by rfl)
          simp only [Act.put, List.setIfInBounds_toArray, List.set_cons_zero, List.set_cons_succ]
          apply wpR_next 7 (some 23)
          · simp only [List.getElem?_toArray, List.getElem?_cons_succ, List.getElem?_cons_zero]; exact rfl
          · rfl
          · kernel_rfl
          · kernel_rfl
          · kernel_rfl
          · exact fun _ _ _ _ h => h
          apply Exists.intro
          apply And.intro
          · exact yr_skip (by rfl)
          simp only [Act.put, List.setIfInBounds_toArray, List.set_cons_zero, List.set_cons_succ]
          apply wpR_next 8 (some 24)
          · simp only [List.getElem?_toArray, List.getElem?_cons_succ, List.getElem?_cons_zero]; exact rfl
          · rfl
          · kernel_rfl
          · kernel_rfl
          · kernel_rfl
          · exact fun _ _ _ _ h => h
          apply Exists.intro
          apply And.intro
          · exact yr_skip (by rfl)
          simp only [Act.put, List.setIfInBounds_toArray, List.set_cons_zero, List.set_cons_succ]
          apply wpR_next 9 (some 25)
          · simp only [List.getElem?_toArray, List.getElem?_cons_succ, List.getElem?_cons_zero]; exact rfl
          · rfl
          · kernel_rfl
          · kernel_rfl
          · kernel_rfl
          · exact fun _ _ _ _ h => h
          apply Exists.intro
          apply And.intro
          · exact yr_skip (by rfl)
          simp only [Act.put, List.setIfInBounds_toArray, List.set_cons_zero, List.set_cons_succ]
          apply wpR_next 10 (some 26)
          · simp only [List.getElem?_toArray, List.getElem?_cons_succ, List.getElem?_cons_zero]; exact rfl
          · rfl
          · kernel_rfl
          · kernel_rfl
          · kernel_rfl
          · exact fun _ _ _ _ h => h
          apply Exists.intro
          apply And.intro
          · exact yr_skip (by rfl)
          simp only [Act.put, List.setIfInBounds_toArray, List.set_cons_zero, List.set_cons_succ]
          apply wpR_next 11 (some 27)
          · simp only [List.getElem?_toArray, List.getElem?_cons_succ, List.getElem?_cons_zero]; exact rfl
          · rfl
          · kernel_rfl
          · kernel_rfl
          · kernel_rfl
          · exact fun _ _ _ _ h => h
          apply Exists.intro
          apply And.intro
          · exact yr_skip (by rfl)
          simp only [Act.put, List.setIfInBounds_toArray, List.set_cons_zero, List.set_cons_succ]
          apply wpR_next 12 (some 28)
          · simp only [List.getElem?_toArray, List.getElem?_cons_succ, List.getElem?_cons_zero]; exact rfl
          · rfl
          · kernel_rfl
          · kernel_rfl
          · kernel_rfl
          · exact fun _ _ _ _ h => h
          apply Exists.intro
          apply And.intro
          · exact yr_skip (by rfl)
          simp only [Act.put, List.setIfInBounds_toArray, List.set_cons_zero, List.set_cons_succ]
          apply wpR_next 13 (some 29)
          · simp only [List.getElem?_toArray, List.getElem?_cons_succ, List.getElem?_cons_zero]; exact rfl
          · rfl
          · kernel_rfl
          · kernel_rfl
          · kernel_rfl
          · exact fun _ _ _ _ h => h
          apply Exists.intro
          apply And.intro
          · exact yr_skip (by rfl)
          simp only [Act.put, List.setIfInBounds_toArray, List.set_cons_zero, List.set_cons_succ]
          apply wpR_next 14 (some 30)
          · simp only [List.getElem?_toArray, List.getElem?_cons_succ, List.getElem?_cons_zero]; exact rfl
          · rfl
          · kernel_rfl
          · kernel_rfl
          · kernel_rfl
          · exact fun _ _ _ _ h => h
          apply Exists.intro
          apply And.intro
          · exact yr_skip (by rfl)
          simp only [Act.put, List.setIfInBounds_toArray, List.set_cons_zero, List.set_cons_succ]
          apply wpR_next 15 (some 31)
          · simp only [List.getElem?_toArray, List.getElem?_cons_succ, List.getElem?_cons_zero]; exact rfl
          · rfl
          · kernel_rfl
          · kernel_rfl
          · kernel_rfl
          · exact fun _ _ _ _ h => h
          apply Exists.intro
          apply And.intro
          · exact yr_skip (by rfl)
          simp only [Act.put, List.setIfInBounds_toArray, List.set_cons_zero, List.set_cons_succ]
          apply wpR_next 16 (some 32)
          · simp only [List.getElem?_toArray, List.getElem?_cons_succ, List.getElem?_cons_zero]; exact rfl
          · rfl
          · kernel_rfl
          · kernel_rfl
          · kernel_rfl
          · exact fun _ _ _ _ h => h
          apply Exists.intro
          apply And.intro
          · exact yr_skip (by rfl)
          simp only [Act.put, List.setIfInBounds_toArray, List.set_cons_zero, List.set_cons_succ]
          apply wpR_next 17 (some 33)
          · simp only [List.getElem?_toArray, List.getElem?_cons_succ, List.getElem?_cons_zero]; exact rfl
          · rfl
          · kernel_rfl
          · kernel_rfl
          · kernel_rfl
          · exact fun _ _ _ _ h => h
          apply Exists.intro
          apply And.intro
          · apply yr_run; rfl; intro w' hw'; go_simp; (try with_reducible rfl)
          simp only [Act.put, List.setIfInBounds_toArray, List.set_cons_zero, List.set_cons_succ]
          apply wpR_next 18 (some 34)
          · simp only [List.getElem?_toArray, List.getElem?_cons_succ, List.getElem?_cons_zero]; exact rfl
          · rfl
          · kernel_rfl
          · kernel_rfl
          · kernel_rfl
          · exact fun _ _ _ _ h => h
          apply Exists.intro
          apply And.intro
          · apply yr_run; rfl; intro w' hw'; go_simp; (try with_reducible rfl)
          simp only [Act.put, List.setIfInBounds_toArray, List.set_cons_zero, List.set_cons_succ]
          refine wpR_done (by kernel_rfl) ?_ _
          intro W3 hw3
          have HB3 := Lib.hid (bel_bl (bel_dr HB2.out) hw3)
          clear hw3 HG2 HO
          go_wp2
          go_roundw
          case rel => exact ⟨0 + 1, some (i1, i2), by omega, by go_num, HB3, HXo, HG3⟩
          case measure => simp [intOf]; omega
        · obtain ⟨y, rfl⟩ : ∃ y, o = some y := by
            cases o with
            | none => have := HO.out.1.1 rfl; omega
            | some y => exact ⟨y, rfl⟩
          have hy := HO.out.2 y rfl
          obtain ⟨j1, rfl⟩ : ∃ j1, j = j1 + 1 := ⟨j - 1, by omega⟩
          rw [Nat.add_sub_cancel] at hy
          obtain ⟨y1, y2⟩ := y
          have p0 := HPL.out j1 _ hy 0 _ rfl
          have p1 := HPL.out j1 _ hy 1 _ rfl
          simp only [Addr.add_lit, Nat.add_zero] at p0 p1
          obtain ⟨jj, gjj⟩ : ∃ z, j1 + 1 = z := ⟨_, rfl⟩
          rw [gjj] at Q HXo HG2 ⊢
          have hsub : IntKind.i64.wrap ((jj : Int) - 1) = (j1 : Int) := by rw [← gjj]; exact (IntWalk.i64_in _ (by omega)).trans (by omega)
          have hj1n : j1 < n := by omega
          have hjj0 : 0 < jj := by omega
          have hjjn : jj < n := by omega
          have hjI : decide ((0 : Int) < (jj : Int)) = true := decide_eq_true (by omega)
          have Gjj := Lib.hid gjj
          clear gjj hj hjn hj0 HO hy
          obtain ⟨ox, gox⟩ : ∃ z, ordI y1 y2 i1 i2 = z := ⟨_, rfl⟩
          have Gox := Lib.hid gox
          have hOr := Lib.hid (fun w' => rorder_any y1 y2 i1 i2 w')
          rw [gox] at hOr
          clear gox
          go_upto_region 5 with fail
          have ldx0 : ∀ w', Kept Nil_ W2.drew w' → w'.cell? ⟨bb, off + jj * 2, none⟩ = some (.int .i64 i1) := fun w' h => h.nil_cell ((HB2.out.drew.cell (p := ⟨bb, off + jj * 2, none⟩) HbB.out).trans Q.out.1)
          have ldx1 : ∀ w', Kept Nil_ W2.drew w' → w'.cell? ⟨bb, off + jj * 2 + 1, none⟩ = some (.int .i64 i2) := fun w' h => h.nil_cell ((HB2.out.drew.cell (p := ⟨bb, off + jj * 2 + 1, none⟩) HbB.out).trans Q.out.2)
          have ldy0 : ∀ w', Kept Nil_ W2.drew w' → w'.cell? ⟨bb, off + j1 * 2, none⟩ = some (.int .i64 y1) := fun w' h => h.nil_cell ((HB2.out.drew.cell (p := ⟨bb, off + j1 * 2, none⟩) HbB.out).trans p0)
          have ldy1 : ∀ w', Kept Nil_ W2.drew w' → w'.cell? ⟨bb, off + j1 * 2 + 1, none⟩ = some (.int .i64 y2) := fun w' h => h.nil_cell ((HB2.out.drew.cell (p := ⟨bb, off + j1 * 2 + 1, none⟩) HbB.out).trans p1)
          clear p0 p1 Q
          refine wp_region_reg (Nil_) (by kernel_rfl) ?_
          apply wpR_next 0 (some 16)
          · simp only [List.getElem?_toArray, List.getElem?_cons_succ, List.getElem?_cons_zero]; exact rfl
          · rfl
          · kernel_rfl
          · kernel_rfl
          · kernel_rfl
          · exact fun _ _ _ _ h => h
          apply Exists.intro
          apply And.intro
          · apply yr_run; rfl; intro w' hw'; go_simp; (try with_reducible rfl)
          simp only [Act.put, List.setIfInBounds_toArray, List.set_cons_zero, List.set_cons_succ]
          apply wpR_next 1 (some 17)
          · simp only [List.getElem?_toArray, List.getElem?_cons_succ, List.getElem?_cons_zero]; exact rfl
          · rfl
          · kernel_rfl
          · kernel_rfl
          · kernel_rfl
          · exact fun _ _ _ _ h => h
          apply Exists.intro
          apply And.intro
          · apply yr_run; rfl; intro w' hw'; go_simp; (try with_reducible rfl)
          simp only [Act.put, List.setIfInBounds_toArray, List.set_cons_zero, List.set_cons_succ]
          apply wpR_next 2 (some 18)
          · simp only [List.getElem?_toArray, List.getElem?_cons_succ, List.getElem?_cons_zero]; exact rfl
          · rfl
          · kernel_rfl
          · kernel_rfl
          · kernel_rfl
          · exact fun _ _ _ _ h => h
          apply Exists.intro
          apply And.intro
          · apply yr_run; rfl; intro w' hw'; go_simp; (try with_reducible rfl)
          simp only [Act.put, List.setIfInBounds_toArray, List.set_cons_zero, List.set_cons_succ]
          apply wpR_next 3 (some 19)
          · simp only [List.getElem?_toArray, List.getElem?_cons_succ, List.getElem?_cons_zero]; exact rfl
          · rfl
          · kernel_rfl
          · kernel_rfl
          · kernel_rfl
          · exact fun _ _ _ _ h => h
          apply Exists.intro
          apply And.intro
          · apply yr_run; rfl; intro w' hw'; go_simp; (try with_reducible rfl)
          simp only [Act.put, List.setIfInBounds_toArray, List.set_cons_zero, List.set_cons_succ]
          apply wpR_next 4 (some 20)
          · simp only [List.getElem?_toArray, List.getElem?_cons_succ, List.getElem?_cons_zero]; exact rfl
          · rfl
          · kernel_rfl
          · kernel_rfl
          · kernel_rfl
          · exact fun _ _ _ _ h => h
          apply Exists.intro
          apply And.intro
          · apply yr_run; rfl; intro w' hw'; go_simp; (try with_reducible rfl)
          simp only [Act.put, List.setIfInBounds_toArray, List.set_cons_zero, List.set_cons_succ]
          apply wpR_next 5 (some 21)
          · simp only [List.getElem?_toArray, List.getElem?_cons_succ, List.getElem?_cons_zero]; exact rfl
          · rfl
          · kernel_rfl
          · kernel_rfl
          · kernel_rfl
          · exact fun _ _ _ _ h => h
          apply Exists.intro
          apply And.intro
          · apply yr_run; rfl; intro w' hw'; go_simp; (try with_reducible rfl)
          simp only [Act.put, List.setIfInBounds_toArray, List.set_cons_zero, List.set_cons_succ]
          apply wpR_next 6 (some 22)
          · simp only [List.getElem?_toArray, List.getElem?_cons_succ, List.getElem?_cons_zero]; exact rfl
          · rfl
          · kernel_rfl
          · kernel_rfl
          · kernel_rfl
          · exact fun _ _ _ _ h => h
          apply Exists.intro
          apply And.intro
          · apply yr_run; rfl; intro w' hw'; go_simp; (try with_reducible rfl)
          simp only [Act.put, List.setIfInBounds_toArray, List.set_cons_zero, List.set_cons_succ]
          apply wpR_next 7 (some 23)
          · simp only [List.getElem?_toArray, List.getElem?_cons_succ, List.getElem?_cons_zero]; exact rfl
          · rfl
          · kernel_rfl
          · kernel_rfl
          · kernel_rfl
          · exact fun _ _ _ _ h => h
          apply Exists.intro
          apply And.intro
          · apply yr_run; rfl; intro w' hw'; go_simp; (try with_reducible rfl)
          simp only [Act.put, List.setIfInBounds_toArray, List.set_cons_zero, List.set_cons_succ]
          apply wpR_next 8 (some 24)
          · simp only [List.getElem?_toArray, List.getElem?_cons_succ, List.getElem?_cons_zero]; exact rfl
          · rfl
          · kernel_rfl
          · kernel_rfl
          · kernel_rfl
          · exact fun _ _ _ _ h => h
          apply Exists.intro
          apply And.intro
          · apply yr_run; rfl; intro w' hw'; go_simp; (try with_reducible rfl)
          simp only [Act.put, List.setIfInBounds_toArray, List.set_cons_zero, List.set_cons_succ]
          apply wpR_next 9 (some 25)
          · simp only [List.getElem?_toArray, List.getElem?_cons_succ, List.getElem?_cons_zero]; exact rfl
          · rfl
          · kernel_rfl
          · kernel_rfl
          · kernel_rfl
          · exact fun _ _ _ _ h => h
          apply Exists.intro
          apply And.intro
          · apply yr_run; rfl; intro w' hw'; go_simp; (try with_reducible rfl)
          simp only [Act.put, List.setIfInBounds_toArray, List.set_cons_zero, List.set_cons_succ]
          apply wpR_next 10 (some 26)
          · simp only [List.getElem?_toArray, List.getElem?_cons_succ, List.getElem?_cons_zero]; exact rfl
          · rfl
          · kernel_rfl
          · kernel_rfl
          · kernel_rfl
          · exact fun _ _ _ _ h => h
          apply Exists.intro
          apply And.intro
          · apply yr_run; rfl; intro w' hw'; go_simp; (try with_reducible rfl)
          simp only [Act.put, List.setIfInBounds_toArray, List.set_cons_zero, List.set_cons_succ]
          apply wpR_next 11 (some 27)
          · simp only [List.getElem?_toArray, List.getElem?_cons_succ, List.getElem?_cons_zero]; exact rfl
          · rfl
          · kernel_rfl
          · kernel_rfl
          · kernel_rfl
          · exact fun _ _ _ _ h => h
          apply Exists.intro
          apply And.intro
          · apply yr_run; rfl; intro w' hw'; go_simp; (try with_reducible rfl)
          simp only [Act.put, List.setIfInBounds_toArray, List.set_cons_zero, List.set_cons_succ]
          apply wpR_next 12 (some 28)
          · simp only [List.getElem?_toArray, List.getElem?_cons_succ, List.getElem?_cons_zero]; exact rfl
          · rfl
          · kernel_rfl
          · kernel_rfl
          · kernel_rfl
          · exact fun _ _ _ _ h => h
          apply Exists.intro
          apply And.intro
          · apply yr_run; rfl; intro w' hw'; go_simp; (try with_reducible rfl)
          simp only [Act.put, List.setIfInBounds_toArray, List.set_cons_zero, List.set_cons_succ]
          apply wpR_next 13 (some 29)
          · simp only [List.getElem?_toArray, List.getElem?_cons_succ, List.getElem?_cons_zero]; exact rfl
          · rfl
          · kernel_rfl
          · kernel_rfl
          · kernel_rfl
          · exact fun _ _ _ _ h => h
          apply Exists.intro
          apply And.intro
          · apply yr_run; rfl; intro w' hw'; go_simp; (try with_reducible rfl)
          simp only [Act.put, List.setIfInBounds_toArray, List.set_cons_zero, List.set_cons_succ]
          apply wpR_next 14 (some 30)
          · simp only [List.getElem?_toArray, List.getElem?_cons_succ, List.getElem?_cons_zero]; exact rfl
          · rfl
          · kernel_rfl
          · kernel_rfl
          · kernel_rfl
          · exact fun _ _ _ _ h => h
          apply Exists.intro
          apply And.intro
          · apply yr_run; rfl; intro w' hw'; go_simp; (try with_reducible rfl)
          simp only [Act.put, List.setIfInBounds_toArray, List.set_cons_zero, List.set_cons_succ]
          apply wpR_next 15 (some 31)
          · simp only [List.getElem?_toArray, List.getElem?_cons_succ, List.getElem?_cons_zero]; exact rfl
          · rfl
          · kernel_rfl
          · kernel_rfl
          · kernel_rfl
          · exact fun _ _ _ _ h => h
          apply Exists.intro
          apply And.intro
          · apply yr_call; rfl; rotate_left; intro w' hw'; exact hOr.out w'; intro w'; go_simp
          simp only [Act.put, List.setIfInBounds_toArray, List.set_cons_zero, List.set_cons_succ]
          apply wpR_next 16 (some 32)
          · simp only [List.getElem?_toArray, List.getElem?_cons_succ, List.getElem?_cons_zero]; exact rfl
          · rfl
          · kernel_rfl
          · kernel_rfl
          · kernel_rfl
          · exact fun _ _ _ _ h => h
          apply Exists.intro
          apply And.intro
          · apply yr_run; rfl; intro w' hw'; go_simp; (try with_reducible rfl)
          simp only [Act.put, List.setIfInBounds_toArray, List.set_cons_zero, List.set_cons_succ]
          apply wpR_next 17 (some 33)
          · simp only [List.getElem?_toArray, List.getElem?_cons_succ, List.getElem?_cons_zero]; exact rfl
          · rfl
          · kernel_rfl
          · kernel_rfl
          · kernel_rfl
          · exact fun _ _ _ _ h => h
          apply Exists.intro
          apply And.intro
          · apply yr_run; rfl; intro w' hw'; go_simp; (try with_reducible rfl)
          simp only [Act.put, List.setIfInBounds_toArray, List.set_cons_zero, List.set_cons_succ]
          apply wpR_next 18 (some 34)
          · simp only [List.getElem?_toArray, List.getElem?_cons_succ, List.getElem?_cons_zero]; exact rfl
          · rfl
          · kernel_rfl
          · kernel_rfl
          · kernel_rfl
          · exact fun _ _ _ _ h => h
          apply Exists.intro
          apply And.intro
          · apply yr_run; rfl; intro w' hw'; go_simp; (try with_reducible rfl)
          simp only [Act.put, List.setIfInBounds_toArray, List.set_cons_zero, List.set_cons_succ]
          refine wpR_done (by kernel_rfl) ?_ _
          intro W3 hw3
          have HB3 := Lib.hid (bel_bl (bel_dr HB2.out) hw3)
          clear hw3 ldx0 ldx1 ldy0 ldy1 hOr hsub
          by_cases hox : 0 ≤ ox
          · have hb0 : b = false := by
              rw [← HG2.out]
              have : ¬ ordI y1 y2 i1 i2 < 0 := by rw [Gox.out]; omega
              simp [riseF, Gbm.out, this]
            subst hb0
            clear HG2
            go_wp2
            go_ret
            exact ⟨rfl, HB3.out⟩
          · have HG3 : RowKit.Hid (riseF (some (i1, i2)) (L.drop (jj + 1)) = b) := Lib.hid (by
              rw [← HG2.out]
              have : ordI y1 y2 i1 i2 < 0 := by rw [Gox.out]; omega
              simp [riseF, Gbm.out, this])
            clear HG2
            go_wp2
            go_roundw
            case rel => exact ⟨jj + 1, some (i1, i2), by omega, by go_num, HB3, HXo, HG3⟩
            case measure => have := Gjj.out; simp [intOf]; omega
    · obtain rfl : n = j := by omega
      have hq : b = true := by
        rw [← HG.out, List.drop_eq_nil_of_le (by have := Hl.out; omega)]
        rfl
      subst hq
      clear HG HO
      go_wp2
      go_ret
      exact ⟨rfl, HB.out⟩
set_option maxRecDepth 100000 in
set_option maxHeartbeats 4000000 in
theorem rnames_any (A : Option Addr) (n c : Nat) (Vs : List VC) (B : Option Addr) (m k : Nat) (Es : List EC) (w : World) (h : DgIn w A n c Vs B m k Es) (hn : n ≤ 1000000) (hm : m ≤ 1000000) :
    Calls Try.prog 33 #[.agg #[.slice A n c, .slice B m k]] w fun e w' => ∃ A' c', e = .returned (.slice A' (n + m) c') ∧ Ow w (w.heap.size + 1) 35 2 (.slice A' (n + m) c') (n + m) (rowsV idC (Vs.map (·.1) ++ Es.map (·.1))) w' := by
  have HV := Lib.hid h.v
  have HE := Lib.hid h.e
  have Hlv := Lib.hid (h.v.rlen vC_len (by decide))
  have Hle := Lib.hid (h.e.rlen eC_len (by decide))
  obtain ⟨i0, hi, hz0, hz1, hz2⟩ := info_partsD info_idD
  clear h
  go_enter Try.func33, Try.ntmps33
  go_wp2
  have hx0 := (Whole.new_ w 25 [.slice A n c, .slice B m k]).alloc (.cells #[] 35)
  have hbl := below1 w (.cells #[.slice A n c, .slice B m k] 25)
  have hO0 : Ow w (w.heap.size + 1) 35 2 (.slice (some ⟨(w.alloc (.cells #[.slice A n c, .slice B m k] 25)).heap.size, 0, none⟩) 0 0) 0 [] ((w.alloc (.cells #[.slice A n c, .slice B m k] 25)).alloc (.cells #[] 35)) := Ow.new_ (cs := #[]) hbl (by omega) (by simp) (Nat.zero_le _) rfl
  rw [show (w.alloc (.cells #[.slice A n c, .slice B m k] 25)).heap.size = w.heap.size + 1 by simp] at hO0
  obtain ⟨W0, gW0⟩ : ∃ z, (w.alloc (.cells #[.slice A n c, .slice B m k] 25)).alloc (.cells #[] 35) = z := ⟨_, rfl⟩
  rw [gW0] at hx0 hO0
  have HO0 : RowKit.Hid (Ow w (w.heap.size + 1) 35 2 (.slice (some ⟨w.heap.size + 1, 0, none⟩) 0 0) 0 (rowsV idC ([] ++ (Vs.take 0).map (·.1))) W0) := Lib.hid hO0
  obtain ⟨B2, gB2⟩ : ∃ z, w.heap.size + 1 = z := ⟨_, rfl⟩
  obtain ⟨b0, gb0⟩ : ∃ z, w.heap.size = z := ⟨_, rfl⟩
  have h0B : b0 < B2 := by omega
  rw [gB2] at HO0
  rw [gb0] at hx0
  have HX0 := Lib.hid hx0
  have GB2 := Lib.hid gB2
  rw [gW0, gB2, gb0]
  clear hx0 hbl hO0 gW0 gB2 gb0
  go_loopw [3, 4] (fun v si wr => ∃ j : Nat, j ≤ n ∧ si = .int .i64 j ∧ RowKit.Hid (Ow w B2 35 2 v j (rowsV idC ([] ++ (Vs.take j).map (·.1))) wr) ∧ RowKit.Hid (Whole wr b0 25 [.slice A n c, .slice B m k])) (fun _ si _ => n - (intOf si).toNat)
  case atStart => exact ⟨0, by omega, rfl, HO0, HX0⟩
  case round =>
    clear HO0 HX0
    obtain ⟨j, hj, rfl, HO, HX⟩ := hrel
    obtain ⟨wo, gwo⟩ : ∃ z, wr = z := ⟨_, rfl⟩
    rw [gwo] at HO HX ⊢
    clear gwo
    have cb := HX.out.cell (i := 0) rfl
    by_cases hjn : j < n
    · obtain ⟨x, hx⟩ : ∃ x, Vs[j]? = some x := ⟨_, List.getElem?_eq_getElem (by have := Hlv.out; omega)⟩
      obtain ⟨bb, off, rfl, hbB, hpl⟩ := HV.out.place vC_len (by decide) (by omega)
      have hbw := HO.out.below
      have q0 := hpl j _ hx 0 _ rfl
      have q1 := hpl j _ hx 1 _ rfl
      have q2 := hpl j _ hx 2 _ rfl
      have q3 := hpl j _ hx 3 _ rfl
      have q4 := hpl j _ hx 4 _ rfl
      simp only [Addr.add_lit, Nat.add_zero] at q0 q1 q2 q3 q4
      have l0 := (hbw.cell (p := ⟨bb, off + j * 5, none⟩) hbB).trans q0
      have l1 := (hbw.cell (p := ⟨bb, off + j * 5 + 1, none⟩) hbB).trans q1
      have l2 := (hbw.cell (p := ⟨bb, off + j * 5 + 2, none⟩) hbB).trans q2
      have l3 := (hbw.cell (p := ⟨bb, off + j * 5 + 3, none⟩) hbB).trans q3
      have l4 := (hbw.cell (p := ⟨bb, off + j * 5 + 4, none⟩) hbB).trans q4
      have HNx := Lib.hid (names_next (·.1) [] Vs j x hx)
      obtain ⟨⟨i1, i2⟩, ⟨rA, rn, rc, rL⟩, lb, at_⟩ := x
      clear hx hpl q0 q1 q2 q3 q4 hbB hbw
      go_wp2_with (first
        | (at_builtin
           refine wpList_push2 rfl (.tmp 14) (.tmp 21) _ rfl _ 35 i0 _ 2 16 Try.underlying58 hi hz0 hz1 hz2 rfl (by decide) _ _ _ rfl (by exact HO.out.up (below1 _ _)) _ (some ⟨wo.heap.size, 0, none⟩) 1 1 [.int .i64 i1, .int .i64 i2] rfl (by exact RdS.of_whole (Whole.new_ _ _ _) rfl) (by simp [Value.oneCell']) (by unfold maxLen; omega) (by omega) ?_
           intro v1 w1 how1 hb1 hgr
           have HO1 : RowKit.Hid (Ow w B2 35 2 v1 (j + 1) (rowsV idC ([] ++ (Vs.take (j + 1)).map (·.1))) w1) := Lib.hid (by
             have h9 := HNx.out
             rw [← h9]
             exact how1)
           have HX1 : RowKit.Hid (Whole w1 b0 25 [.slice (some ⟨bb, off, none⟩) n c, .slice B m k]) := Lib.hid ((HX.out.alloc _).grown hgr (HO.out.low_ne h0B))
           clear how1 hb1 hgr))
      go_roundw
      case rel => exact ⟨j + 1, by omega, by go_num, HO1, HX1⟩
      case measure => simp [intOf]; omega
    · obtain rfl : n = j := by omega
      have HO2 : RowKit.Hid (Ow w B2 35 2 u3 (n + 0) (rowsV idC (Vs.map (·.1) ++ (Es.take 0).map (·.1))) wo) := Lib.hid (by
        have h9 := HO.out
        rw [List.take_of_length_le (by have := Hlv.out; omega), List.nil_append] at h9
        simpa using h9)
      have c1 := HX.out.cell (i := 1) rfl
      clear HO
      go_wp2
      clear c1
      go_loopw [3, 5] (fun v si wr => ∃ j : Nat, j ≤ m ∧ si = .int .i64 j ∧ RowKit.Hid (Ow w B2 35 2 v (n + j) (rowsV idC (Vs.map (·.1) ++ (Es.take j).map (·.1))) wr) ∧ RowKit.Hid (Whole wr b0 25 [.slice A n c, .slice B m k])) (fun _ si _ => m - (intOf si).toNat)
      case atStart => exact ⟨0, by omega, rfl, HO2, HX⟩
      case round =>
        clear HO2 HX
        obtain ⟨j, hj2, rfl, HO, HX⟩ := hrel
        obtain ⟨wi, gwi⟩ : ∃ z, wr = z := ⟨_, rfl⟩
        rw [gwi] at HO HX ⊢
        clear gwi
        have cb := HX.out.cell (i := 1) rfl
        by_cases hjm : j < m
        · obtain ⟨x, hx⟩ : ∃ x, Es[j]? = some x := ⟨_, List.getElem?_eq_getElem (by have := Hle.out; omega)⟩
          obtain ⟨bb, off, rfl, hbB, hpl⟩ := HE.out.place eC_len (by decide) (by omega)
          have hbw := HO.out.below
          have q0 := hpl j _ hx 0 _ rfl
          have q1 := hpl j _ hx 1 _ rfl
          have q2 := hpl j _ hx 2 _ rfl
          have q3 := hpl j _ hx 3 _ rfl
          simp only [Addr.add_lit, Nat.add_zero] at q0 q1 q2 q3
          have l0 := (hbw.cell (p := ⟨bb, off + j * 4, none⟩) hbB).trans q0
          have l1 := (hbw.cell (p := ⟨bb, off + j * 4 + 1, none⟩) hbB).trans q1
          have l2 := (hbw.cell (p := ⟨bb, off + j * 4 + 2, none⟩) hbB).trans q2
          have l3 := (hbw.cell (p := ⟨bb, off + j * 4 + 3, none⟩) hbB).trans q3
          have HNx := Lib.hid (names_next (·.1) (Vs.map (·.1)) Es j x hx)
          obtain ⟨⟨i1, i2⟩, lb, at_⟩ := x
          clear hx hpl q0 q1 q2 q3 hbB hbw
          go_wp2_with (first
            | (at_builtin
               refine wpList_push2 rfl (.tmp 30) (.tmp 37) _ rfl _ 35 i0 _ 2 16 Try.underlying58 hi hz0 hz1 hz2 rfl (by decide) _ _ _ rfl (by exact HO.out.up (below1 _ _)) _ (some ⟨wi.heap.size, 0, none⟩) 1 1 [.int .i64 i1, .int .i64 i2] rfl (by exact RdS.of_whole (Whole.new_ _ _ _) rfl) (by simp [Value.oneCell']) (by unfold maxLen; omega) (by omega) ?_
               intro v1 w1 how1 hb1 hgr
               have HO1 : RowKit.Hid (Ow w B2 35 2 v1 (n + (j + 1)) (rowsV idC (Vs.map (·.1) ++ (Es.take (j + 1)).map (·.1))) w1) := Lib.hid (by
                 have h9 := HNx.out
                 rw [← h9]
                 exact how1)
               have HX1 : RowKit.Hid (Whole w1 b0 25 [.slice A n c, .slice (some ⟨bb, off, none⟩) m k]) := Lib.hid ((HX.out.alloc _).grown hgr (HO.out.low_ne h0B))
               clear how1 hb1 hgr))
          go_roundw
          case rel => exact ⟨j + 1, by omega, by go_num, HO1, HX1⟩
          case measure => simp [intOf]; omega
        · obtain rfl : m = j := by omega
          have ho := HO.out
          rw [List.take_of_length_le (by have := Hle.out; omega)] at ho
          obtain ⟨A', c', rfl, -⟩ := ho.rds
          have HO3 := Lib.hid ho
          clear HO ho
          go_wp2
          go_ret
          refine ⟨A', c', rfl, ?_⟩
          first | exact HO3.out | (rw [GB2.out]; exact HO3.out)
end Go.Proofs.Ytpindjknngcccaa
