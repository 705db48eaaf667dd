/- Words for all layers, in one text. -/
import Derived.ProofKit
import Derived.Below
import Derived.Carry
import Derived.WideKeyArgs
import Derived.OpenShut
import Derived.Deep.Slices
import Derived.Test.YtpindjknngcccaaProg
import Derived.KernelRfl
import Derived.Test.YtpindjknngcccaaBase

/- What a law's row asks behind the walk, once for all laws: where the call answers true and leaves all that was there as it was, the row's post holds, whatever the arguments' types. -/
namespace Go.Proofs.Ytpindjknngcccaa
open Go.ChangeShapes Go.WideShapes Go.ChangeAt Go.RowKit

section
variable {H : Type} {enc : TypeId × Value → H} {P : Program}

/-- A row of arguments reads as it did where below the old heap's end nothing has turned. -/
theorem trodAll_stays (hl : laidOutB P = true) {W W' : World} (hb : Below W.heap.size W W') : ∀ (ts : List TypeId) (vs : List Value) (ds : List (DataW H)) (ps : List MemPlace) (sp : Nat → Bool),
    (∀ t ∈ ts, P.readableRec t = true ∧ t < P.types.size) → DataW.TrodAll enc P W 0 (fun _ => true) true ts vs ds ps →
    (∀ p ∈ ps, p.block < W.heap.size) → (∀ p ∈ ps, sp p.block = true) → DataW.TrodAll enc P W' 0 sp true ts vs ds ps
  | [], _, _, _, _, _, h, _, _ => by
    obtain ⟨rfl, rfl, rfl⟩ := trodAll_nil h
    exact rfl
  | t :: ts, vs, ds, ps, sp, ht, h, hlt, hs => by
    obtain ⟨v, vs', d, ds', p, q, rfl, rfl, rfl, h1, h2⟩ := trodAll_cons h
    have ⟨hr, hrow⟩ := ht t (by simp)
    refine ⟨p, q, WideElems.Trod_stays hl hr hrow h1 (fun x hx => hb.same (hlt x (by simp [hx]))) (fun x hx => hs x (by simp [hx])), ?_, rfl⟩
    exact trodAll_stays hl hb ts vs' ds' q sp (fun t' h' => ht t' (by simp [h'])) h2 (fun x hx => hlt x (by simp [hx])) (fun x hx => hs x (by simp [hx]))

/-- A law's post. -/
theorem law_post {f : Func} {s : ChangeSpec} {tb : TypeId} {W W' : World} {args : Array Value} {ds gs : List (DataW H)} {before : List MemPlace}
    (hl : laidOutB P = true) (hts : f.params.toList.all (fun t => P.readableRec t && decide (t < P.types.size)) = true) (hr : f.resultTypes = #[tb]) (htb : P.underlying tb = some .bool) (hv : s.vars = [])
    (hfn : (s.fn H (ds ++ gs)).results = [.lit (.bool true)] ∧ (s.fn H (ds ++ gs)).args = ds ∧ (s.fn H (ds ++ gs)).vars = [])
    (hW : DataW.Whole enc P f.params.toList s.vars false W args.toList ds gs before) (hb : Below W.heap.size W W') :
    s.post enc P f false true false false W args (.bool true) W' := by
  have hts' : ∀ t ∈ f.params.toList, P.readableRec t = true ∧ t < P.types.size := fun t ht => by
    have h := List.all_eq_true.1 hts t ht
    simpa using h
  have hlt : ∀ p ∈ before, p.block < W.heap.size := fun p hp => hW.lt p hp
  have hW' := hW
  obtain ⟨p, q, hA, hV, rfl, hfz, hnd⟩ := hW
  rw [hv] at hV
  obtain ⟨rfl, rfl⟩ := trodVars_none hV
  obtain ⟨e1, e2, e3⟩ := hfn
  refine ⟨ds, [], p ++ [], [], p, [], hW', ?_, ?_, ?_, ?_, fun h => by cases h⟩
  · rw [e1, hr]
    exact trodAll_mk1 (shut_bool htb _)
  · rw [e2]
    exact trodAll_stays hl hb _ _ _ _ _ hts' hA (fun x hx => hlt x (by simp [hx])) (fun x hx => by simpa using hlt x (by simp [hx]))
  · rw [e3, hv]
    rfl
  · exact World.keptBut_mono (fun x hx => ⟨hx, by simpa using hx⟩) (hb.frame (· ∈ p ++ []))
end
end Go.Proofs.Ytpindjknngcccaa

/- A law's arguments opened: types that are flat rows of int; what such a value is. -/
namespace Go.Proofs.Ytpindjknngcccaa
open Go.ChangeShapes Go.WideShapes Go.ChangeAt Go.RowKit

section
variable {H : Type} {P : Program}

def In64 (n : Int) : Prop := -9223372036854775808 ≤ n ∧ n ≤ 9223372036854775807
end
end Go.Proofs.Ytpindjknngcccaa

/- The laws' types as rows of int; what the row's shutting asks of the program. -/
namespace Go.Proofs.Ytpindjknngcccaa
open Go.ChangeShapes Go.WideShapes Go.ChangeAt Go.RowKit

theorem Try.own : ownKnob Try.prog.godebug = none := by kernel_rfl
theorem Try.laidOut : laidOutB Try.prog = true := by kernel_rfl

end Go.Proofs.Ytpindjknngcccaa

/- A law's slice argument opened: its elements are rows of ints, or bytes. -/
namespace Go.Proofs.Ytpindjknngcccaa
open Go.ChangeShapes Go.WideShapes Go.ChangeAt Go.RowKit Go.Deep

section
variable {H : Type} {P : Program}

end
end Go.Proofs.Ytpindjknngcccaa

/- A law's arguments opened, by the type: ints, bools, texts, slices, structs of these. -/
namespace Go.Proofs.Ytpindjknngcccaa
open Go.ChangeShapes Go.WideShapes Go.ChangeAt Go.RowKit Go.Deep

section
variable {H : Type} {P : Program} {α β : Type}

/-- What reads as data at type t is the cells of some a with p. -/
def Row1 (H : Type) (P : Program) (t : TypeId) (f : α → List Value) (p : World → α → Prop) : Prop :=
  ∀ (enc : TypeId × Value → H) (w : World) (held : Bool) (fuel : Nat) (cs : List Value) (x : DataW H × List MemPlace),
    DataW.trod enc P w 0 (fun _ => true) held fuel t cs = some x → ∃ a, cs = f a ∧ p w a

theorem row1_int {t : TypeId} (ht : P.underlying t = some (.int .i64)) : Row1 H P t (fun n : Int => [.int .i64 n]) (fun _ n => In64 n) := by
  intro enc w held fuel cs x h
  obtain ⟨n, rfl, _, hw⟩ := DataW.trod_int ht h
  exact ⟨n, rfl, bounds_i64 hw⟩
theorem row1_string {t : TypeId} (ht : P.underlying t = some .string) : Row1 H P t (fun s : ByteArray => [.string s]) (fun _ s => s.size ≤ maxLen) := by
  intro enc w held fuel cs x h
  obtain ⟨s, rfl, _, hs⟩ := DataW.trod_string ht h
  exact ⟨s, rfl, hs⟩
theorem Row1.map {t : TypeId} {f : α → List Value} {p : World → α → Prop} (h : Row1 H P t f p) (g : α → β) {f' : β → List Value} {p' : World → β → Prop} (hf : ∀ a, f a = f' (g a)) (hp : ∀ w a, p w a → p' w (g a)) : Row1 H P t f' p' := by
  intro enc w held fuel cs x hx
  obtain ⟨a, rfl, ha⟩ := h enc w held fuel cs x hx
  exact ⟨g a, hf a, hp w a ha⟩

/-- What the fields from cell off on read as. -/
def Fields_ (H : Type) (P : Program) (fs : List Field) (off m : Nat) (g : α → List Value) (q : World → α → Prop) : Prop :=
  ∀ (enc : TypeId × Value → H) (w : World) (held : Bool) (n : Nat) (cs : List Value),
    (∀ fl ∈ fs, ∃ y, DataW.trod enc P w 0 (fun _ => true) held n fl.type ((cs.drop fl.offset).take (P.cellsOf fl.type)) = some y) → ∃ a, (cs.drop off).take m = g a ∧ q w a
theorem fields_nil (off : Nat) : Fields_ H P [] off 0 (fun _ : Unit => []) (fun _ _ => True) := fun _ _ _ _ cs _ => ⟨(), by simp, trivial⟩
theorem fields_cons {fl : Field} {fs : List Field} {off k m : Nat} {f : α → List Value} {p : World → α → Prop} {g : β → List Value} {q : World → β → Prop}
    (h : Row1 H P fl.type f p) (ho : fl.offset = off) (hc : P.cellsOf fl.type = k) (hr : Fields_ H P fs (off + k) m g q) :
    Fields_ H P (fl :: fs) off (k + m) (fun ab : α × β => f ab.1 ++ g ab.2) (fun w ab => p w ab.1 ∧ q w ab.2) := by
  intro enc w held n cs hall
  obtain ⟨y, hy⟩ := hall fl (by simp)
  obtain ⟨a, ha, pa⟩ := h _ _ _ _ _ _ hy
  obtain ⟨b, hb, qb⟩ := hr enc w held n cs (fun fl' h' => hall fl' (by simp [h']))
  rw [ho, hc] at ha
  refine ⟨(a, b), ?_, pa, qb⟩
  show _ = f a ++ g b
  rw [← ha, ← hb, List.take_add, List.drop_drop]
theorem row1_struct {t : TypeId} {fs : List Field} {m : Nat} {g : α → List Value} {q : World → α → Prop} (ht : P.underlying t = some (.struct fs.toArray)) (hc : P.cellsOf t = m) (h : Fields_ H P fs 0 m g q) : Row1 H P t g q := by
  intro enc w held fuel cs x hx
  obtain ⟨xs, n, _, _, hl, hlen, hg⟩ := DataW.trod_struct ht hx
  obtain ⟨a, ha, qa⟩ := h enc w held n cs (fun fl hfl => by
    obtain ⟨i, hi⟩ := List.getElem?_of_mem hfl
    have h1 := hg i fl (by simpa using hi)
    have hlt : i < xs.length := by
      rw [hlen]
      simpa using (List.getElem?_eq_some_iff.1 hi).1
    exact ⟨xs[i], by rw [h1, List.getElem?_eq_getElem hlt]⟩)
  refine ⟨a, ?_, qa⟩
  rw [← ha, List.drop_zero, List.take_of_length_le (by omega)]

theorem row1_rows {e : TypeId} {k : Nat} {f : α → List Value} {p : World → α → Prop} (hi : Row1 H P e f p) (hc : P.cellsOf e = k) (hk : ∀ a, (f a).length = k) (enc : TypeId × Value → H) (W : World) (held : Bool) (a : Addr) (nn : Nat) :
    ∀ n : Nat, (∀ i, i < n → ∃ cs' D, W.cells? 0 (a.add (i * P.cellsOf e)) (P.cellsOf e) = some cs' ∧ DataW.trod enc P W 0 (fun _ => true) held nn e cs' = some D) →
      ∃ l : List α, l.length = n ∧ (∀ j u, (rowsV f l)[j]? = some u → W.cell? (a.add j) = some u) ∧ ∀ x ∈ l, p W x
  | 0, _ => ⟨[], rfl, fun j u h => (by simp [rowsV] at h), fun x h => (by cases h)⟩
  | n + 1, h => by
    obtain ⟨l, hl, hq, hp⟩ := row1_rows hi hc hk enc W held a nn n (fun i hi => h i (by omega))
    obtain ⟨cs', D, h1, h2⟩ := h n (by omega)
    obtain ⟨x, rfl, hx⟩ := hi _ _ _ _ _ _ h2
    rw [hc] at h1
    obtain ⟨_, hln, hat⟩ := World.cells?_some h1
    have hlen : (rowsV f l).length = n * k := by rw [rowsV_length f hk, hl]
    refine ⟨l ++ [x], by simp [hl], fun j u hj => ?_, fun y hy => ?_⟩
    · rw [rowsV_app] at hj
      rcases Nat.lt_or_ge j (n * k) with hlt | hge
      · rw [List.getElem?_append_left (by omega)] at hj
        exact hq j u hj
      · rw [List.getElem?_append_right (by omega), hlen] at hj
        simp only [rowsV, List.append_nil] at hj
        have hjk : j - n * k < k := by
          rcases Nat.lt_or_ge (j - n * k) k with h3 | h3
          · exact h3
          · rw [List.getElem?_eq_none (by rw [hk]; exact h3)] at hj
            cases hj
        have h4 := hat (j - n * k) hjk
        rw [hj, add_add, show n * k + (j - n * k) = j by omega] at h4
        exact h4
    · rcases List.mem_append.1 hy with hy | hy
      · exact hp y hy
      · obtain rfl := List.mem_singleton.1 hy
        exact hx

/-- What a slice reads as. -/
def SlOk (k : Nat) (f : α → List Value) (p : World → α → Prop) (w : World) (s : Option Addr × Nat × Nat × List α) : Prop :=
  s.2.2.1 ≤ maxLen ∧ RdS w w.heap.size k s.1 s.2.1 s.2.2.1 (rowsV f s.2.2.2) ∧ ∀ x ∈ s.2.2.2, p w x
def slCells (s : Option Addr × Nat × Nat × List α) : List Value := [.slice s.1 s.2.1 s.2.2.1]
theorem row1_slice {t e : TypeId} {k : Nat} {f : α → List Value} {p : World → α → Prop} (hi : Row1 H P e f p) (ht : P.underlying t = some (.slice e)) (hc : P.cellsOf e = k) (hk : ∀ a, (f a).length = k) (h0 : 0 < k) :
    Row1 H P t (slCells (α := α)) (SlOk k f p) := by
  intro enc W held fuel cs x hf
  rcases open_slice ht hf with ⟨rfl, _⟩ | ⟨a, n, c, m, q, D, Pl, rfl, hb, hl, hm, hmm, hx, hel⟩
  · exact ⟨(none, 0, 0, []), rfl, Nat.zero_le _, ⟨by simp [rowsV], fun _ => ⟨rfl, rfl⟩, Nat.le_refl _, fun a ha => (by cases ha), fun a ha => (by cases ha)⟩, fun x hx => (by cases hx)⟩
  · have hmc : m = c := by simpa using hmm
    clear hmm
    subst m
    obtain ⟨l, hlen, hcell, hp⟩ := row1_rows hi hc hk enc W held a q n (fun i him => by
      obtain ⟨cs', h1, h2⟩ := hel i (by omega)
      exact ⟨cs', _, h1, h2⟩)
    refine ⟨(some a, n, c, l), rfl, hm, ⟨by rw [rowsV_length f hk, hlen], fun e => (by cases e), hl, fun a' ha hn => ?_, fun a' ha j u hu => ?_⟩, hp⟩
    · obtain rfl := Option.some.inj ha
      have h0' : 0 < (rowsV f l).length := by rw [rowsV_length f hk, hlen]; exact Nat.mul_pos hn h0
      have := World.block_lt_of_cell? W _ (hcell 0 _ (List.getElem?_eq_getElem h0'))
      simpa [Addr.add] using this
    · obtain rfl := Option.some.inj ha
      exact hcell j u hu

theorem open_row1_struct {w W : World} {t : TypeId} {fs : Array Field} {f : α → List Value} {p : World → α → Prop} {r : Reach} {b0 : Nat} {enc : TypeId × Value → H} {held : Bool} {v : Value} {d : DataW H} {ps : List MemPlace}
    (hi : Row1 H P t f p) (ht : P.underlying t = some (.struct fs)) (hv : Value.okWide P w r b0 t v) (hd : DataW.Trod enc P W 0 (fun _ => true) held t v d ps) :
    ∃ a, v = .agg (f a).toArray ∧ p W a := by
  simp only [Value.okWide, ht] at hv
  obtain ⟨cs, rfl, _, _⟩ := hv
  obtain ⟨fuel, hf⟩ := hd
  obtain ⟨a, q, ha⟩ := hi _ _ _ _ _ _ hf
  refine ⟨a, ?_, ha⟩
  simp only [Value.cells] at q
  rw [← q, Array.toArray_toList]
end
end Go.Proofs.Ytpindjknngcccaa
