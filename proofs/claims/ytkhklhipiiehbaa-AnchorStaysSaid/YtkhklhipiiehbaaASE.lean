/- 'AnchorStays' answers true for every state, every dart, every corner and every one more that is gone.
   No condition beyond the row's own. -/
import Derived.ProofKit
import Derived.Below
import Derived.Carry
import Derived.WideKeyArgs
import Derived.OpenShut
import Derived.Deep.Slices
import Derived.Test.YtkhklhipiiehbaaProg
import Derived.KernelRfl
import Derived.Test.YtkhklhipiiehbaaASA
import Derived.Test.YtkhklhipiiehbaaASC
import Derived.Test.YtkhklhipiiehbaaRows
import Derived.Test.YtkhklhipiiehbaaASD

/- Words for all layers, in one text. -/
namespace Go.Proofs.Ytkhklhipiiehbaa
open Go.ChangeShapes Go.WideShapes Go.ChangeAt Go.RowKit

section
variable {H : Type} {enc : TypeId × Value → H} {P : Program}

/-- A row of arguments reads as it did where below the old heap's end nothing has turned. -/
theorem trodAll_stays (hl : laidOutB P = true) {W W' : World} (hb : Below W.heap.size W W') : ∀ (ts : List TypeId) (vs : List Value) (ds : List (DataW H)) (ps : List MemPlace) (sp : Nat → Bool),
    (∀ t ∈ ts, P.readableRec t = true ∧ t < P.types.size) → DataW.TrodAll enc P W 0 (fun _ => true) true ts vs ds ps →
    (∀ p ∈ ps, p.block < W.heap.size) → (∀ p ∈ ps, sp p.block = true) → DataW.TrodAll enc P W' 0 sp true ts vs ds ps
  | [], _, _, _, _, _, h, _, _ => by
    obtain ⟨rfl, rfl, rfl⟩ := trodAll_nil h
    exact rfl
  | t :: ts, vs, ds, ps, sp, ht, h, hlt, hs => by
    obtain ⟨v, vs', d, ds', p, q, rfl, rfl, rfl, h1, h2⟩ := trodAll_cons h
    have ⟨hr, hrow⟩ := ht t (by simp)
    refine ⟨p, q, WideElems.Trod_stays hl hr hrow h1 (fun x hx => hb.same (hlt x (by simp [hx]))) (fun x hx => hs x (by simp [hx])), ?_, rfl⟩
    exact trodAll_stays hl hb ts vs' ds' q sp (fun t' h' => ht t' (by simp [h'])) h2 (fun x hx => hlt x (by simp [hx])) (fun x hx => hs x (by simp [hx]))

/-- A law's post. -/
theorem law_post {f : Func} {s : ChangeSpec} {tb : TypeId} {W W' : World} {args : Array Value} {ds gs : List (DataW H)} {before : List MemPlace}
    (hl : laidOutB P = true) (hts : f.params.toList.all (fun t => P.readableRec t && decide (t < P.types.size)) = true) (hr : f.resultTypes = #[tb]) (htb : P.underlying tb = some .bool) (hv : s.vars = [])
    (hfn : (s.fn H (ds ++ gs)).results = [.lit (.bool true)] ∧ (s.fn H (ds ++ gs)).args = ds ∧ (s.fn H (ds ++ gs)).vars = [])
    (hW : DataW.Whole enc P f.params.toList s.vars false W args.toList ds gs before) (hb : Below W.heap.size W W') :
    s.post enc P f false true false false W args (.bool true) W' := by
  have hts' : ∀ t ∈ f.params.toList, P.readableRec t = true ∧ t < P.types.size := fun t ht => by
    have h := List.all_eq_true.1 hts t ht
    simpa using h
  have hlt : ∀ p ∈ before, p.block < W.heap.size := fun p hp => hW.lt p hp
  have hW' := hW
  obtain ⟨p, q, hA, hV, rfl, hfz, hnd⟩ := hW
  rw [hv] at hV
  obtain ⟨rfl, rfl⟩ := trodVars_none hV
  obtain ⟨e1, e2, e3⟩ := hfn
  refine ⟨ds, [], p ++ [], [], p, [], hW', ?_, ?_, ?_, ?_, fun h => by cases h⟩
  · rw [e1, hr]
    exact trodAll_mk1 (shut_bool htb _)
  · rw [e2]
    exact trodAll_stays hl hb _ _ _ _ _ hts' hA (fun x hx => hlt x (by simp [hx])) (fun x hx => by simpa using hlt x (by simp [hx]))
  · rw [e3, hv]
    rfl
  · exact World.keptBut_mono (fun x hx => ⟨hx, by simpa using hx⟩) (hb.frame (· ∈ p ++ []))
end
end Go.Proofs.Ytkhklhipiiehbaa

/- A law's arguments opened: types that are flat rows of int; what such a value is. -/
namespace Go.Proofs.Ytkhklhipiiehbaa
open Go.ChangeShapes Go.WideShapes Go.ChangeAt Go.RowKit

section
variable {H : Type} {P : Program}

def In64 (n : Int) : Prop := -9223372036854775808 ≤ n ∧ n ≤ 9223372036854775807
end
end Go.Proofs.Ytkhklhipiiehbaa

/- The laws' types as rows of int; what the row's shutting asks of the program. -/
namespace Go.Proofs.Ytkhklhipiiehbaa
open Go.ChangeShapes Go.WideShapes Go.ChangeAt Go.RowKit

theorem Try.own : ownKnob Try.prog.godebug = none := by kernel_rfl
theorem Try.laidOut : laidOutB Try.prog = true := by kernel_rfl

end Go.Proofs.Ytkhklhipiiehbaa

/- A law's slice argument opened: its elements are rows of ints, or bytes. -/
namespace Go.Proofs.Ytkhklhipiiehbaa
open Go.ChangeShapes Go.WideShapes Go.ChangeAt Go.RowKit Go.Deep

section
variable {H : Type} {P : Program}

end
end Go.Proofs.Ytkhklhipiiehbaa

/- A law's arguments opened, by the type: ints, bools, texts, slices, structs of these. -/
namespace Go.Proofs.Ytkhklhipiiehbaa
open Go.ChangeShapes Go.WideShapes Go.ChangeAt Go.RowKit Go.Deep

section
variable {H : Type} {P : Program} {α β : Type}

/-- What reads as data at type t is the cells of some a with p. -/
def Row1 (H : Type) (P : Program) (t : TypeId) (f : α → List Value) (p : World → α → Prop) : Prop :=
  ∀ (enc : TypeId × Value → H) (w : World) (held : Bool) (fuel : Nat) (cs : List Value) (x : DataW H × List MemPlace),
    DataW.trod enc P w 0 (fun _ => true) held fuel t cs = some x → ∃ a, cs = f a ∧ p w a

theorem row1_int {t : TypeId} (ht : P.underlying t = some (.int .i64)) : Row1 H P t (fun n : Int => [.int .i64 n]) (fun _ n => In64 n) := by
  intro enc w held fuel cs x h
  obtain ⟨n, rfl, _, hw⟩ := DataW.trod_int ht h
  exact ⟨n, rfl, bounds_i64 hw⟩
theorem row1_string {t : TypeId} (ht : P.underlying t = some .string) : Row1 H P t (fun s : ByteArray => [.string s]) (fun _ s => s.size ≤ maxLen) := by
  intro enc w held fuel cs x h
  obtain ⟨s, rfl, _, hs⟩ := DataW.trod_string ht h
  exact ⟨s, rfl, hs⟩
theorem Row1.map {t : TypeId} {f : α → List Value} {p : World → α → Prop} (h : Row1 H P t f p) (g : α → β) {f' : β → List Value} {p' : World → β → Prop} (hf : ∀ a, f a = f' (g a)) (hp : ∀ w a, p w a → p' w (g a)) : Row1 H P t f' p' := by
  intro enc w held fuel cs x hx
  obtain ⟨a, rfl, ha⟩ := h enc w held fuel cs x hx
  exact ⟨g a, hf a, hp w a ha⟩

/-- What the fields from cell off on read as. -/
def Fields_ (H : Type) (P : Program) (fs : List Field) (off m : Nat) (g : α → List Value) (q : World → α → Prop) : Prop :=
  ∀ (enc : TypeId × Value → H) (w : World) (held : Bool) (n : Nat) (cs : List Value),
    (∀ fl ∈ fs, ∃ y, DataW.trod enc P w 0 (fun _ => true) held n fl.type ((cs.drop fl.offset).take (P.cellsOf fl.type)) = some y) → ∃ a, (cs.drop off).take m = g a ∧ q w a
theorem fields_nil (off : Nat) : Fields_ H P [] off 0 (fun _ : Unit => []) (fun _ _ => True) := fun _ _ _ _ cs _ => ⟨(), by simp, trivial⟩
theorem fields_cons {fl : Field} {fs : List Field} {off k m : Nat} {f : α → List Value} {p : World → α → Prop} {g : β → List Value} {q : World → β → Prop}
    (h : Row1 H P fl.type f p) (ho : fl.offset = off) (hc : P.cellsOf fl.type = k) (hr : Fields_ H P fs (off + k) m g q) :
    Fields_ H P (fl :: fs) off (k + m) (fun ab : α × β => f ab.1 ++ g ab.2) (fun w ab => p w ab.1 ∧ q w ab.2) := by
  intro enc w held n cs hall
  obtain ⟨y, hy⟩ := hall fl (by simp)
  obtain ⟨a, ha, pa⟩ := h _ _ _ _ _ _ hy
  obtain ⟨b, hb, qb⟩ := hr enc w held n cs (fun fl' h' => hall fl' (by simp [h']))
  rw [ho, hc] at ha
  refine ⟨(a, b), ?_, pa, qb⟩
  show _ = f a ++ g b
  rw [← ha, ← hb, List.take_add, List.drop_drop]
theorem row1_struct {t : TypeId} {fs : List Field} {m : Nat} {g : α → List Value} {q : World → α → Prop} (ht : P.underlying t = some (.struct fs.toArray)) (hc : P.cellsOf t = m) (h : Fields_ H P fs 0 m g q) : Row1 H P t g q := by
  intro enc w held fuel cs x hx
  obtain ⟨xs, n, _, _, hl, hlen, hg⟩ := DataW.trod_struct ht hx
  obtain ⟨a, ha, qa⟩ := h enc w held n cs (fun fl hfl => by
    obtain ⟨i, hi⟩ := List.getElem?_of_mem hfl
    have h1 := hg i fl (by simpa using hi)
    have hlt : i < xs.length := by
      rw [hlen]
      simpa using (List.getElem?_eq_some_iff.1 hi).1
    exact ⟨xs[i], by rw [h1, List.getElem?_eq_getElem hlt]⟩)
  refine ⟨a, ?_, qa⟩
  rw [← ha, List.drop_zero, List.take_of_length_le (by omega)]

theorem row1_rows {e : TypeId} {k : Nat} {f : α → List Value} {p : World → α → Prop} (hi : Row1 H P e f p) (hc : P.cellsOf e = k) (hk : ∀ a, (f a).length = k) (enc : TypeId × Value → H) (W : World) (held : Bool) (a : Addr) (nn : Nat) :
    ∀ n : Nat, (∀ i, i < n → ∃ cs' D, W.cells? 0 (a.add (i * P.cellsOf e)) (P.cellsOf e) = some cs' ∧ DataW.trod enc P W 0 (fun _ => true) held nn e cs' = some D) →
      ∃ l : List α, l.length = n ∧ (∀ j u, (rowsV f l)[j]? = some u → W.cell? (a.add j) = some u) ∧ ∀ x ∈ l, p W x
  | 0, _ => ⟨[], rfl, fun j u h => (by simp [rowsV] at h), fun x h => (by cases h)⟩
  | n + 1, h => by
    obtain ⟨l, hl, hq, hp⟩ := row1_rows hi hc hk enc W held a nn n (fun i hi => h i (by omega))
    obtain ⟨cs', D, h1, h2⟩ := h n (by omega)
    obtain ⟨x, rfl, hx⟩ := hi _ _ _ _ _ _ h2
    rw [hc] at h1
    obtain ⟨_, hln, hat⟩ := World.cells?_some h1
    have hlen : (rowsV f l).length = n * k := by rw [rowsV_length f hk, hl]
    refine ⟨l ++ [x], by simp [hl], fun j u hj => ?_, fun y hy => ?_⟩
    · rw [rowsV_app] at hj
      rcases Nat.lt_or_ge j (n * k) with hlt | hge
      · rw [List.getElem?_append_left (by omega)] at hj
        exact hq j u hj
      · rw [List.getElem?_append_right (by omega), hlen] at hj
        simp only [rowsV, List.append_nil] at hj
        have hjk : j - n * k < k := by
          rcases Nat.lt_or_ge (j - n * k) k with h3 | h3
          · exact h3
          · rw [List.getElem?_eq_none (by rw [hk]; exact h3)] at hj
            cases hj
        have h4 := hat (j - n * k) hjk
        rw [hj, add_add, show n * k + (j - n * k) = j by omega] at h4
        exact h4
    · rcases List.mem_append.1 hy with hy | hy
      · exact hp y hy
      · obtain rfl := List.mem_singleton.1 hy
        exact hx

/-- What a slice reads as. -/
def SlOk (k : Nat) (f : α → List Value) (p : World → α → Prop) (w : World) (s : Option Addr × Nat × Nat × List α) : Prop :=
  s.2.2.1 ≤ maxLen ∧ RdS w w.heap.size k s.1 s.2.1 s.2.2.1 (rowsV f s.2.2.2) ∧ ∀ x ∈ s.2.2.2, p w x
def slCells (s : Option Addr × Nat × Nat × List α) : List Value := [.slice s.1 s.2.1 s.2.2.1]
theorem row1_slice {t e : TypeId} {k : Nat} {f : α → List Value} {p : World → α → Prop} (hi : Row1 H P e f p) (ht : P.underlying t = some (.slice e)) (hc : P.cellsOf e = k) (hk : ∀ a, (f a).length = k) (h0 : 0 < k) :
    Row1 H P t (slCells (α := α)) (SlOk k f p) := by
  intro enc W held fuel cs x hf
  rcases open_slice ht hf with ⟨rfl, _⟩ | ⟨a, n, c, m, q, D, Pl, rfl, hb, hl, hm, hmm, hx, hel⟩
  · exact ⟨(none, 0, 0, []), rfl, Nat.zero_le _, ⟨by simp [rowsV], fun _ => ⟨rfl, rfl⟩, Nat.le_refl _, fun a ha => (by cases ha), fun a ha => (by cases ha)⟩, fun x hx => (by cases hx)⟩
  · have hmc : m = c := by simpa using hmm
    clear hmm
    subst m
    obtain ⟨l, hlen, hcell, hp⟩ := row1_rows hi hc hk enc W held a q n (fun i him => by
      obtain ⟨cs', h1, h2⟩ := hel i (by omega)
      exact ⟨cs', _, h1, h2⟩)
    refine ⟨(some a, n, c, l), rfl, hm, ⟨by rw [rowsV_length f hk, hlen], fun e => (by cases e), hl, fun a' ha hn => ?_, fun a' ha j u hu => ?_⟩, hp⟩
    · obtain rfl := Option.some.inj ha
      have h0' : 0 < (rowsV f l).length := by rw [rowsV_length f hk, hlen]; exact Nat.mul_pos hn h0
      have := World.block_lt_of_cell? W _ (hcell 0 _ (List.getElem?_eq_getElem h0'))
      simpa [Addr.add] using this
    · obtain rfl := Option.some.inj ha
      exact hcell j u hu

theorem open_row1_struct {w W : World} {t : TypeId} {fs : Array Field} {f : α → List Value} {p : World → α → Prop} {r : Reach} {b0 : Nat} {enc : TypeId × Value → H} {held : Bool} {v : Value} {d : DataW H} {ps : List MemPlace}
    (hi : Row1 H P t f p) (ht : P.underlying t = some (.struct fs)) (hv : Value.okWide P w r b0 t v) (hd : DataW.Trod enc P W 0 (fun _ => true) held t v d ps) :
    ∃ a, v = .agg (f a).toArray ∧ p W a := by
  simp only [Value.okWide, ht] at hv
  obtain ⟨cs, rfl, _, _⟩ := hv
  obtain ⟨fuel, hf⟩ := hd
  obtain ⟨a, q, ha⟩ := hi _ _ _ _ _ _ hf
  refine ⟨a, ?_, ha⟩
  simp only [Value.cells] at q
  rw [← q, Array.toArray_toList]
end
end Go.Proofs.Ytkhklhipiiehbaa

/- The laws' types of the diagram layers: names, darts, vertices, edges, diagrams. -/
namespace Go.Proofs.Ytkhklhipiiehbaa
open Go.ChangeShapes Go.WideShapes Go.ChangeAt Go.RowKit

theorem row1_id (H : Type) : Row1 H Try.prog 30 idC (fun _ x => In64 x.1 ∧ In64 x.2) :=
  (row1_struct Try.underlying30 (by kernel_rfl) (fields_cons (k := 1) (row1_int Try.underlying3) rfl (by kernel_rfl) (fields_cons (k := 1) (row1_int Try.underlying3) rfl (by kernel_rfl) (fields_nil _)))).map
    (fun a => (a.1, a.2.1)) (fun _ => rfl) (fun _ _ h => ⟨h.1, h.2.1⟩)
theorem row1_dart (H : Type) : Row1 H Try.prog 32 dC (fun _ x => In64 x.1 ∧ In64 x.2.1 ∧ In64 x.2.2) :=
  (row1_struct Try.underlying32 (by kernel_rfl) (fields_cons (k := 2) (row1_id H) rfl (by kernel_rfl) (fields_cons (k := 1) (row1_int Try.underlying3) rfl (by kernel_rfl) (fields_nil _)))).map
    (fun a => (a.1.1, a.1.2, a.2.1)) (fun _ => rfl) (fun _ _ h => ⟨h.1.1, h.1.2, h.2.1⟩)
def VOk (W : World) (v : VC) : Prop := SlOk 3 dC (fun _ x => In64 x.1 ∧ In64 x.2.1 ∧ In64 x.2.2) W v.2.1 ∧ v.2.2.1.size ≤ maxLen
theorem row1_vertex (H : Type) : Row1 H Try.prog 53 vC VOk :=
  (row1_struct Try.underlying53 (by kernel_rfl) (fields_cons (k := 2) (row1_id H) rfl (by kernel_rfl) (fields_cons (k := 1) (row1_slice (row1_dart H) Try.underlying51 (by kernel_rfl) dC_len (by decide)) rfl (by kernel_rfl)
    (fields_cons (k := 1) (row1_string Try.underlying9) rfl (by kernel_rfl) (fields_cons (k := 1) (row1_int Try.underlying3) rfl (by kernel_rfl) (fields_nil _)))))).map
    (fun a => (a.1, a.2.1, a.2.2.1, a.2.2.2.1)) (fun _ => rfl) (fun _ _ h => ⟨h.2.1, h.2.2.1⟩)
def EOk (_ : World) (e : EC) : Prop := In64 e.1.1 ∧ In64 e.1.2 ∧ e.2.1.size ≤ maxLen
theorem row1_edge (H : Type) : Row1 H Try.prog 65 eC EOk :=
  (row1_struct Try.underlying65 (by kernel_rfl) (fields_cons (k := 2) (row1_id H) rfl (by kernel_rfl)
    (fields_cons (k := 1) (row1_string Try.underlying9) rfl (by kernel_rfl) (fields_cons (k := 1) (row1_int Try.underlying3) rfl (by kernel_rfl) (fields_nil _))))).map
    (fun a => (a.1, a.2.1, a.2.2.1)) (fun _ => rfl) (fun _ _ h => ⟨h.1.1, h.1.2, h.2.1⟩)
abbrev DgT := (Option Addr × Nat × Nat × List VC) × (Option Addr × Nat × Nat × List EC)
def dgC (d : DgT) : List Value := [.slice d.1.1 d.1.2.1 d.1.2.2.1, .slice d.2.1 d.2.2.1 d.2.2.2.1]
def DgOk (W : World) (d : DgT) : Prop := SlOk 5 vC VOk W d.1 ∧ SlOk 4 eC EOk W d.2
theorem row1_diagram (H : Type) : Row1 H Try.prog 25 dgC DgOk :=
  (row1_struct Try.underlying25 (by kernel_rfl) (fields_cons (k := 1) (row1_slice (row1_vertex H) Try.underlying22 (by kernel_rfl) vC_len (by decide)) rfl (by kernel_rfl)
    (fields_cons (k := 1) (row1_slice (row1_edge H) Try.underlying23 (by kernel_rfl) eC_len (by decide)) rfl (by kernel_rfl) (fields_nil _)))).map
    (fun a => (a.1, a.2.1)) (fun _ => rfl) (fun _ _ h => ⟨h.1, h.2.1⟩)
theorem DgOk.dg {W : World} {d : DgT} (h : DgOk W d) : DgIn W d.1.1 d.1.2.1 d.1.2.2.1 d.1.2.2.2 d.2.1 d.2.2.1 d.2.2.2.1 d.2.2.2.2 :=
  ⟨h.1.2.1, h.2.2.1, fun x hx => ⟨(h.1.2.2 x hx).1.1, by rw [dartsV_rows]; exact (h.1.2.2 x hx).1.2.1⟩⟩
theorem DgOk.max {W : World} {d : DgT} (h : DgOk W d) : d.1.2.1 ≤ maxLen ∧ d.2.2.1 ≤ maxLen := ⟨Nat.le_trans h.1.2.1.le h.1.1, Nat.le_trans h.2.2.1.le h.2.1⟩
end Go.Proofs.Ytkhklhipiiehbaa

/- Types of layer 11 as data. -/
namespace Go.Proofs.Ytkhklhipiiehbaa
open Go.ChangeShapes Go.WideShapes Go.ChangeAt Go.RowKit
set_option linter.unusedSimpArgs false
set_option linter.unusedVariables false

def GnOk (_ : World) (x : Gn) : Prop := In64 x.1.1 ∧ In64 x.1.2.1 ∧ In64 x.1.2.2
theorem row1_gone (H : Type) : Row1 H Try.prog 36 gnC GnOk :=
  (row1_struct Try.underlying36 (by kernel_rfl) (fields_cons (k := 3) (row1_dart H) rfl (by kernel_rfl) (fields_cons (k := 3) (row1_dart H) rfl (by kernel_rfl) (fields_nil _)))).map
    (fun a => (a.1, a.2.1)) (fun _ => rfl) (fun _ _ h => h.1)
abbrev StT := DgT × (Option Addr × Nat × Nat × List Gn)
def stC (s : StT) : List Value := [.slice s.1.1.1 s.1.1.2.1 s.1.1.2.2.1, .slice s.1.2.1 s.1.2.2.1 s.1.2.2.2.1, .slice s.2.1 s.2.2.1 s.2.2.2.1]
def StOk (W : World) (s : StT) : Prop := DgOk W s.1 ∧ SlOk 6 gnC GnOk W s.2
theorem row1_state (H : Type) : Row1 H Try.prog 28 stC StOk :=
  (row1_struct Try.underlying28 (by kernel_rfl) (fields_cons (k := 2) (row1_diagram H) rfl (by kernel_rfl)
    (fields_cons (k := 1) (row1_slice (row1_gone H) Try.underlying26 (by kernel_rfl) gnC_len (by decide)) rfl (by kernel_rfl) (fields_nil _)))).map
    (fun a => (a.1, a.2.1)) (fun _ => rfl) (fun _ _ h => ⟨h.1, h.2.1⟩)
abbrev AskT := ((Int × Int) × D) × Gn
def askC (x : AskT) : List Value := [.int .i64 x.1.1.1, .int .i64 x.1.1.2, .int .i64 x.1.2.1, .int .i64 x.1.2.2.1, .int .i64 x.1.2.2.2] ++ gnC x.2
theorem row1_corner (H : Type) : Row1 H Try.prog 34 (fun x : (Int × Int) × D => [.int .i64 x.1.1, .int .i64 x.1.2, .int .i64 x.2.1, .int .i64 x.2.2.1, .int .i64 x.2.2.2]) (fun _ _ => True) :=
  (row1_struct Try.underlying34 (by kernel_rfl) (fields_cons (k := 2) (row1_id H) rfl (by kernel_rfl) (fields_cons (k := 3) (row1_dart H) rfl (by kernel_rfl) (fields_nil _)))).map
    (fun a => (a.1, a.2.1)) (fun _ => rfl) (fun _ _ _ => trivial)
theorem row1_ask (H : Type) : Row1 H Try.prog 38 askC (fun _ _ => True) :=
  (row1_struct Try.underlying38 (by kernel_rfl) (fields_cons (k := 5) (row1_corner H) rfl (by kernel_rfl) (fields_cons (k := 6) (row1_gone H) rfl (by kernel_rfl) (fields_nil _)))).map
    (fun a => (a.1, a.2.1)) (fun _ => rfl) (fun _ _ _ => trivial)
end Go.Proofs.Ytkhklhipiiehbaa

/- 'AnchorStays' answers true for every state, every dart, every corner and every one more that is gone.
   No condition beyond the row's own. -/
namespace Go.Proofs.Ytkhklhipiiehbaa
open Go.ChangeShapes Go.WideShapes Go.ChangeAt Go.RowKit
namespace lawAnchorStays

set_option maxRecDepth 100000 in
theorem contract (H : Type) (enc : TypeId × Value → H) (W : World) (base : Nat) (args : Array Value) (ds gs : List (DataW H)) (before : List MemPlace)
    (hval : ∀ (j : Nat) t v, Try.f3.params[j]? = some t → args[j]? = some v → Value.okWide Try.prog W .any base t v)
    (hW : DataW.Whole enc Try.prog Try.f3.params.toList Rows.anchorStaysSpec.vars false W args.toList ds gs before) :
    Calls Try.prog 3 args W fun e W' => ∃ v, e = .returned v ∧ Rows.anchorStaysSpec.post enc Try.prog Try.f3 false true false false W args v W' := by
  have hW' := hW
  obtain ⟨p, q, hA, hV, rfl, hfz, hnd⟩ := hW
  obtain ⟨rfl, rfl⟩ := trodVars_none hV
  rw [Try.params3] at hA hval
  obtain ⟨v0, v1, v2, d0, d1, d2, p0, p1, p2, rfl, rfl, rfl, h0, h1, h2⟩ := trodAll_three hA
  obtain ⟨s, rfl, hx0⟩ := open_row1_struct (row1_state H) Try.underlying28 (hval 0 28 v0 rfl rfl) h0
  obtain ⟨d, rfl, hx1⟩ := open_row1_struct (row1_dart H) Try.underlying32 (hval 1 32 v1 rfl rfl) h1
  obtain ⟨x, rfl, hx2⟩ := open_row1_struct (row1_ask H) Try.underlying38 (hval 2 38 v2 rfl rfl) h2
  refine (law_stays s.1.1.1 s.1.1.2.1 s.1.1.2.2.1 s.1.1.2.2.2 s.1.2.1 s.1.2.2.1 s.1.2.2.2.1 s.1.2.2.2.2 s.2.1 s.2.2.1 s.2.2.2.1 s.2.2.2.2 d.1 d.2.1 d.2.2 x.1.1.1 x.1.1.2 x.1.2.1 x.1.2.2.1 x.1.2.2.2 x.2.1.1 x.2.1.2.1 x.2.1.2.2 x.2.2.1 x.2.2.2.1 x.2.2.2.2 W hx0.1.dg hx0.2.2.1 hx0.1.max.1 hx0.1.max.2 (Nat.le_trans hx0.2.2.1.le hx0.2.1)).mono fun e W' ⟨he, hb⟩ => ⟨_, he, ?_⟩
  exact law_post Try.laidOut (by kernel_rfl) (tb := 4) (by kernel_rfl) Try.underlying4 rfl ⟨rfl, rfl, rfl⟩ hW' hb

set_option maxRecDepth 100000 in
theorem lifted (os : Os) (started : os.Started) (H : Type) (enc : TypeId × Value → H) :
    ReturnsInHanded {} Try.checked os 3 .any (Rows.anchorStaysSpec.pre6 enc Try.prog Try.f3 Rows.anchorStaysRow.domain false) (Rows.anchorStaysSpec.post enc Try.prog Try.f3 false true false false) := by
  refine returnsInHanded_of_change (C := Try.checked) Try.own started (by kernel_rfl) Try.func3
    (ChangeSpec.witness6 (enc := enc) (C := Try.checked) false ⟨#[], #[.agg #[.slice none 0 0, .slice none 0 0, .slice none 0 0], .agg #[.int .i64 0, .int .i64 0, .int .i64 0], .agg #[.int .i64 0, .int .i64 0, .int .i64 0, .int .i64 0, .int .i64 0, .int .i64 0, .int .i64 0, .int .i64 0, .int .i64 0, .int .i64 0, .int .i64 0]], []⟩ 8 (by kernel_rfl) (by kernel_rfl) (by kernel_rfl) (by kernel_rfl)) ?_
  intro W base args ds gs before hval hW _ _
  exact contract H enc W base args ds gs before hval hW

theorem proved : Rows.AnchorStaysSaid :=
  OpenClaim.holds_of_wide 3 Try.f3 rfl rfl rfl rfl rfl rfl rfl ⟨rfl, rfl, rfl, rfl, rfl⟩ rfl rfl rfl rfl rfl (by kernel_rfl) Try.func3 (by kernel_rfl)
    (of_decide_eq_true (by kernel_rfl)) (by unfold Func.isWrapper; first | (rw [if_pos (by decide +kernel)]; kernel_rfl) | (rw [if_neg (by decide +kernel)]; exact ⟨rfl, rfl⟩))
    (fun os started H enc _ => lifted os started H enc)
end lawAnchorStays
end Go.Proofs.Ytkhklhipiiehbaa
