/- Several texts in one. -/
import Derived.ProofKit
import Derived.Below
import Derived.Carry
import Derived.WideKeyArgs
import Derived.OpenShut
import Derived.Deep.Slices
import Derived.Test.YtoiflngpjdghbaaProg
import Derived.KernelRfl
import Derived.Test.YtoiflngpjdghbaaOAA
import Derived.WalkKit
import Derived.WalkSpells
import Derived.WalkLawsBesides
import Derived.Deep.RegionHeld3
import Derived.Deep.QuietTactic
import Derived.BigQuiet
import Derived.Lib.Hide
import Derived.Laws.RangeString
import Derived.Laws.RangeAny
import Derived.LoopTactic
import Derived.Laws.MakeOwn
import Derived.Laws.Strings
import Derived.Lib.SliceRun
import Derived.Laws.CopyOwn
import Derived.Lib.AppendStr
import Derived.Laws.BitsAllLaws
import Derived.Laws.IdiomStrings
import Derived.Laws.ShiftsVarLaws

/- Words for all layers, in one text. -/
namespace Go.Proofs.Ytoiflngpjdghbaa
open Go.ChangeShapes Go.WideShapes Go.ChangeAt Go.RowKit

section
variable {H : Type} {enc : TypeId × Value → H} {P : Program}

/-- A row of arguments reads as it did where below the old heap's end nothing has turned. -/
theorem trodAll_stays (hl : laidOutB P = true) {W W' : World} (hb : Below W.heap.size W W') : ∀ (ts : List TypeId) (vs : List Value) (ds : List (DataW H)) (ps : List MemPlace) (sp : Nat → Bool),
    (∀ t ∈ ts, P.readableRec t = true ∧ t < P.types.size) → DataW.TrodAll enc P W 0 (fun _ => true) true ts vs ds ps →
    (∀ p ∈ ps, p.block < W.heap.size) → (∀ p ∈ ps, sp p.block = true) → DataW.TrodAll enc P W' 0 sp true ts vs ds ps
  | [], _, _, _, _, _, h, _, _ => by
    obtain ⟨rfl, rfl, rfl⟩ := trodAll_nil h
    exact rfl
  | t :: ts, vs, ds, ps, sp, ht, h, hlt, hs => by
    obtain ⟨v, vs', d, ds', p, q, rfl, rfl, rfl, h1, h2⟩ := trodAll_cons h
    have ⟨hr, hrow⟩ := ht t (by simp)
    refine ⟨p, q, WideElems.Trod_stays hl hr hrow h1 (fun x hx => hb.same (hlt x (by simp [hx]))) (fun x hx => hs x (by simp [hx])), ?_, rfl⟩
    exact trodAll_stays hl hb ts vs' ds' q sp (fun t' h' => ht t' (by simp [h'])) h2 (fun x hx => hlt x (by simp [hx])) (fun x hx => hs x (by simp [hx]))

/-- A law's post. -/
theorem law_post {f : Func} {s : ChangeSpec} {tb : TypeId} {W W' : World} {args : Array Value} {ds gs : List (DataW H)} {before : List MemPlace}
    (hl : laidOutB P = true) (hts : f.params.toList.all (fun t => P.readableRec t && decide (t < P.types.size)) = true) (hr : f.resultTypes = #[tb]) (htb : P.underlying tb = some .bool) (hv : s.vars = [])
    (hfn : (s.fn H (ds ++ gs)).results = [.lit (.bool true)] ∧ (s.fn H (ds ++ gs)).args = ds ∧ (s.fn H (ds ++ gs)).vars = [])
    (hW : DataW.Whole enc P f.params.toList s.vars false W args.toList ds gs before) (hb : Below W.heap.size W W') :
    s.post enc P f false true false false W args (.bool true) W' := by
  have hts' : ∀ t ∈ f.params.toList, P.readableRec t = true ∧ t < P.types.size := fun t ht => by
    have h := List.all_eq_true.1 hts t ht
    simpa using h
  have hlt : ∀ p ∈ before, p.block < W.heap.size := fun p hp => hW.lt p hp
  have hW' := hW
  obtain ⟨p, q, hA, hV, rfl, hfz, hnd⟩ := hW
  rw [hv] at hV
  obtain ⟨rfl, rfl⟩ := trodVars_none hV
  obtain ⟨e1, e2, e3⟩ := hfn
  refine ⟨ds, [], p ++ [], [], p, [], hW', ?_, ?_, ?_, ?_, fun h => by cases h⟩
  · rw [e1, hr]
    exact trodAll_mk1 (shut_bool htb _)
  · rw [e2]
    exact trodAll_stays hl hb _ _ _ _ _ hts' hA (fun x hx => hlt x (by simp [hx])) (fun x hx => by simpa using hlt x (by simp [hx]))
  · rw [e3, hv]
    rfl
  · exact World.keptBut_mono (fun x hx => ⟨hx, by simpa using hx⟩) (hb.frame (· ∈ p ++ []))
end
end Go.Proofs.Ytoiflngpjdghbaa

/- A law's arguments opened: types that are flat rows of int; what such a value is. -/
namespace Go.Proofs.Ytoiflngpjdghbaa
open Go.ChangeShapes Go.WideShapes Go.ChangeAt Go.RowKit

section
variable {H : Type} {P : Program}

def In64 (n : Int) : Prop := -9223372036854775808 ≤ n ∧ n ≤ 9223372036854775807
def ivs (ns : List Int) : List Value := ns.map (Value.int .i64)

/-- Type t is a row of k cells, each an int. -/
def Ints (H : Type) (P : Program) (t : TypeId) (k : Nat) : Prop :=
  ∀ (enc : TypeId × Value → H) (w : World) (base : Nat) (spare : Nat → Bool) (held : Bool) (fuel : Nat) (cs : List Value) (x : DataW H × List MemPlace),
    DataW.trod enc P w base spare held fuel t cs = some x → ∃ ns : List Int, ns.length = k ∧ cs = ivs ns ∧ (∀ n ∈ ns, In64 n)

theorem ints_int {t : TypeId} (ht : P.underlying t = some (.int .i64)) : Ints H P t 1 := by
  intro enc w base spare held fuel cs x h
  obtain ⟨n, rfl, _, hw⟩ := DataW.trod_int ht h
  exact ⟨[n], rfl, rfl, fun m hm => by
    obtain rfl := List.mem_singleton.1 hm
    exact bounds_i64 hw⟩

theorem ints_struct2 {t : TypeId} {f0 f1 : Field} {k0 k1 k : Nat} (ht : P.underlying t = some (.struct #[f0, f1])) (h0 : Ints H P f0.type k0) (h1 : Ints H P f1.type k1)
    (o0 : f0.offset = 0) (o1 : f1.offset = k0) (c0 : P.cellsOf f0.type = k0) (c1 : P.cellsOf f1.type = k1) (c : P.cellsOf t = k) (hk : k = k0 + k1) : Ints H P t k := by
  intro enc w base spare held fuel cs x h
  obtain ⟨xs, n, _, _, hl, hlen, hg⟩ := DataW.trod_struct ht h
  have e0 := hg 0 f0 rfl
  have e1 := hg 1 f1 rfl
  rw [List.getElem?_eq_getElem (by rw [hlen]; simp)] at e0 e1
  obtain ⟨n0, l0, q0, w0⟩ := h0 _ _ _ _ _ _ _ _ e0
  obtain ⟨n1, l1, q1, w1⟩ := h1 _ _ _ _ _ _ _ _ e1
  rw [o0, c0, List.drop_zero] at q0
  rw [o1, c1] at q1
  refine ⟨n0 ++ n1, by simp [l0, l1, hk], ?_, fun m hm => ?_⟩
  · have h2 : (cs.drop k0).take k1 = cs.drop k0 := List.take_of_length_le (by rw [List.length_drop]; omega)
    rw [h2] at q1
    rw [← List.take_append_drop k0 cs, q0, q1, ivs, ivs, ivs, List.map_append]
  · rcases List.mem_append.1 hm with hm | hm
    · exact w0 m hm
    · exact w1 m hm

theorem ints_rows {α : Type} (e k : Nat) (p : α → Prop) (f : α → Value) : ∀ (n : Nat) (cs : List Value), cs.length = n * k →
    (∀ i, i < n → ∃ ns : List α, ns.length = k ∧ (cs.drop (i * k)).take k = ns.map f ∧ ∀ m ∈ ns, p m) → ∃ ns : List α, ns.length = n * k ∧ cs = ns.map f ∧ ∀ m ∈ ns, p m
  | 0, cs, hl, _ => ⟨[], by simp, List.eq_nil_of_length_eq_zero (by simpa using hl), fun m hm => by cases hm⟩
  | n + 1, cs, hl, h => by
    obtain ⟨n0, l0, q0, w0⟩ := h 0 (by omega)
    obtain ⟨n1, l1, q1, w1⟩ := ints_rows e k p f n (cs.drop k) (by rw [List.length_drop, hl, Nat.succ_mul]; omega) (fun i hi => by
      have := h (i + 1) (by omega)
      rwa [List.drop_drop, show k + i * k = (i + 1) * k by rw [Nat.succ_mul]; omega])
    rw [Nat.zero_mul, List.drop_zero] at q0
    refine ⟨n0 ++ n1, by rw [List.length_append, l0, l1, Nat.succ_mul]; omega, ?_, fun m hm => ?_⟩
    · rw [← List.take_append_drop k cs, q0, q1, List.map_append]
    · rcases List.mem_append.1 hm with hm | hm
      · exact w0 m hm
      · exact w1 m hm

theorem ints_array {t e : TypeId} {n k m : Nat} (ht : P.underlying t = some (.array n e)) (he : Ints H P e k) (ce : P.cellsOf e = k) (ct : P.cellsOf t = m) (hm : m = n * k) : Ints H P t m := by
  intro enc w base spare held fuel cs x h
  obtain ⟨xs, q, _, _, hl, hlen, hg⟩ := DataW.trod_array ht h
  subst hm
  refine ints_rows 0 k In64 (Value.int .i64) n cs (by omega) fun i hi => ?_
  have h1 := hg i hi
  rw [List.getElem?_eq_getElem (by omega), ce] at h1
  exact he _ _ _ _ _ _ _ _ h1

theorem open_struct_ints {w W : World} {t : TypeId} {fs : Array Field} {k : Nat} {r : Reach} {b0 base : Nat} {enc : TypeId × Value → H} {spare : Nat → Bool} {held : Bool} {v : Value} {d : DataW H} {ps : List MemPlace}
    (hi : Ints H P t k) (ht : P.underlying t = some (.struct fs)) (hv : Value.okWide P w r b0 t v) (hd : DataW.Trod enc P W base spare held t v d ps) :
    ∃ ns : List Int, ns.length = k ∧ v = .agg (ivs ns).toArray ∧ ∀ n ∈ ns, In64 n := by
  simp only [Value.okWide, ht] at hv
  obtain ⟨cs, rfl, _, _⟩ := hv
  obtain ⟨fuel, hf⟩ := hd
  obtain ⟨ns, l, q, wf⟩ := hi _ _ _ _ _ _ _ _ hf
  refine ⟨ns, l, ?_, wf⟩
  simp only [Value.cells] at q
  rw [← q, Array.toArray_toList]

theorem open_array_ints {w W : World} {t e : TypeId} {n k : Nat} {r : Reach} {b0 base : Nat} {enc : TypeId × Value → H} {spare : Nat → Bool} {held : Bool} {v : Value} {d : DataW H} {ps : List MemPlace}
    (hi : Ints H P t k) (ht : P.underlying t = some (.array n e)) (hv : Value.okWide P w r b0 t v) (hd : DataW.Trod enc P W base spare held t v d ps) :
    ∃ ns : List Int, ns.length = k ∧ v = .agg (ivs ns).toArray ∧ ∀ n ∈ ns, In64 n := by
  simp only [Value.okWide, ht] at hv
  obtain ⟨cs, rfl, _, _⟩ := hv
  obtain ⟨fuel, hf⟩ := hd
  obtain ⟨ns, l, q, wf⟩ := hi _ _ _ _ _ _ _ _ hf
  refine ⟨ns, l, ?_, wf⟩
  simp only [Value.cells] at q
  rw [← q, Array.toArray_toList]
end
end Go.Proofs.Ytoiflngpjdghbaa

/- The laws' types as rows of int; what the row's shutting asks of the program. -/
namespace Go.Proofs.Ytoiflngpjdghbaa
open Go.ChangeShapes Go.WideShapes Go.ChangeAt Go.RowKit

theorem Try.own : ownKnob Try.prog.godebug = none := by kernel_rfl
theorem Try.laidOut : laidOutB Try.prog = true := by kernel_rfl

theorem ints_i (H : Type) : Ints H Try.prog 3 1 := ints_int Try.underlying3
theorem ints_id (H : Type) : Ints H Try.prog 42 2 := ints_struct2 Try.underlying42 (ints_i H) (ints_i H) rfl rfl (by kernel_rfl) (by kernel_rfl) (by kernel_rfl) rfl
theorem ints_dart (H : Type) : Ints H Try.prog 44 3 := ints_struct2 Try.underlying44 (ints_id H) (ints_i H) rfl rfl (by kernel_rfl) (by kernel_rfl) (by kernel_rfl) rfl
end Go.Proofs.Ytoiflngpjdghbaa

/- A law's slice argument opened: its elements are rows of ints, or bytes. -/
namespace Go.Proofs.Ytoiflngpjdghbaa
open Go.ChangeShapes Go.WideShapes Go.ChangeAt Go.RowKit Go.Deep

section
variable {H : Type} {P : Program}

/-- Type e is a row of k cells, each of them f of a number that fits. -/
def Rows_ (H : Type) (P : Program) (f : Int → Value) (p : Int → Prop) (t : TypeId) (k : Nat) : Prop :=
  ∀ (enc : TypeId × Value → H) (w : World) (base : Nat) (spare : Nat → Bool) (held : Bool) (fuel : Nat) (cs : List Value) (x : DataW H × List MemPlace),
    DataW.trod enc P w base spare held fuel t cs = some x → ∃ ns : List Int, ns.length = k ∧ cs = ns.map f ∧ (∀ n ∈ ns, p n)

theorem rows_of_ints {t : TypeId} {k : Nat} (h : Ints H P t k) : Rows_ H P (Value.int .i64) In64 t k := h
theorem rows_u8 {t : TypeId} (ht : P.underlying t = some (.int .u8)) : Rows_ H P u8v (fun n => 0 ≤ n ∧ n ≤ 255) t 1 := by
  intro enc w base spare held fuel cs x h
  obtain ⟨n, rfl, _, hw⟩ := DataW.trod_int ht h
  exact ⟨[n], rfl, rfl, fun m hm => by
    obtain rfl := List.mem_singleton.1 hm
    exact bounds_u8 hw⟩

theorem rows_build (f : Int → Value) (p : Int → Prop) (k : Nat) (cell : Nat → Option Value) : ∀ n : Nat,
    (∀ i, i < n → ∃ ns : List Int, ns.length = k ∧ (∀ j u, (ns.map f)[j]? = some u → cell (i * k + j) = some u) ∧ ∀ m ∈ ns, p m) →
    ∃ ns : List Int, ns.length = n * k ∧ (∀ j u, (ns.map f)[j]? = some u → cell j = some u) ∧ ∀ m ∈ ns, p m
  | 0, _ => ⟨[], by simp, fun j u h => (by simp at h), fun m h => (by cases h)⟩
  | n + 1, h => by
    obtain ⟨n0, l0, q0, w0⟩ := rows_build f p k cell n (fun i hi => h i (by omega))
    obtain ⟨n1, l1, q1, w1⟩ := h n (by omega)
    refine ⟨n0 ++ n1, by rw [List.length_append, l0, l1, Nat.succ_mul], fun j u hj => ?_, fun m hm => ?_⟩
    · rw [List.map_append] at hj
      rcases Nat.lt_or_ge j (n * k) with hlt | hge
      · rw [List.getElem?_append_left (by simpa [l0] using hlt)] at hj
        exact q0 j u hj
      · rw [List.getElem?_append_right (by simpa [l0] using hge)] at hj
        have := q1 _ u hj
        rw [List.length_map, l0] at this
        rwa [show n * k + (j - n * k) = j by omega] at this
    · rcases List.mem_append.1 hm with hm | hm
      · exact w0 m hm
      · exact w1 m hm

theorem open_cell_rows {W : World} {t e : TypeId} {k : Nat} {f : Int → Value} {p : Int → Prop} {enc : TypeId × Value → H} {held : Bool} {v : Value} {fuel : Nat} {y : DataW H × List MemPlace}
    (hi : Rows_ H P f p e k) (ht : P.underlying t = some (.slice e)) (hc : P.cellsOf e = k) (hk : 0 < k) (hf : DataW.trod enc P W 0 (fun _ => true) held fuel t [v] = some y) :
    ∃ (A : Option Addr) (n c : Nat) (ns : List Int), v = .slice A n c ∧ c ≤ maxLen ∧ (∀ x ∈ ns, p x) ∧ RdS W W.heap.size k A n c (ns.map f) := by
  rcases open_slice ht hf with ⟨hcs, _⟩ | ⟨a, n, c, m, q, D, Pl, hcs, hb, hl, hm, hmm, hx, hel⟩
  · have hv' : v = .slice none 0 0 := by simpa using hcs
    rw [hv']
    exact ⟨none, 0, 0, [], rfl, Nat.zero_le _, fun x hx => (by cases hx), ⟨by simp, fun _ => ⟨rfl, rfl⟩, Nat.le_refl _, fun a ha => (by cases ha), fun a ha => (by cases ha)⟩⟩
  · have hv' : v = .slice (some a) n c := by simpa using hcs
    rw [hv']
    have hmc : m = c := by simpa using hmm
    clear hmm
    subst m
    have hns : ∃ ns : List Int, ns.length = n * k ∧ (∀ j u, (ns.map f)[j]? = some u → W.cell? (a.add j) = some u) ∧ ∀ m ∈ ns, p m := rows_build f p k (fun j => W.cell? (a.add j)) n (fun i him => by
      obtain ⟨cs', h1, h2⟩ := hel i (by omega)
      obtain ⟨ns, l, rfl, hp⟩ := hi _ _ _ _ _ _ _ _ h2
      rw [hc] at h1
      obtain ⟨_, hln, hat⟩ := World.cells?_some h1
      refine ⟨ns, l, fun j u hu => ?_, hp⟩
      have hj : j < k := by
        rcases Nat.lt_or_ge j k with h3 | h3
        · exact h3
        · rw [List.getElem?_eq_none (by simpa [l] using h3)] at hu
          cases hu
      have := hat j hj
      rw [← add_add, this, hu])
    obtain ⟨ns, hlen, hcell, hp⟩ := hns
    refine ⟨some a, n, c, ns, rfl, hm, hp, ⟨by simpa using hlen, fun e => (by cases e), hl, fun a' ha hn => ?_, fun a' ha j u hu => ?_⟩⟩
    · obtain rfl := Option.some.inj ha
      have h0 : 0 < n * k := Nat.mul_pos hn hk
      have hne : (ns.map f)[0]? = some (f (ns[0]'(by rw [hlen]; exact h0))) := by simp [hlen, h0]
      have := World.block_lt_of_cell? W _ (hcell 0 _ hne)
      simpa [Addr.add] using this
    · obtain rfl := Option.some.inj ha
      exact hcell j u hu
theorem open_slice_rows {W w : World} {t e : TypeId} {k : Nat} {f : Int → Value} {p : Int → Prop} {r : Reach} {b0 : Nat} {enc : TypeId × Value → H} {held : Bool} {v : Value} {d : DataW H} {ps : List MemPlace}
    (hi : Rows_ H P f p e k) (ht : P.underlying t = some (.slice e)) (hc : P.cellsOf e = k) (hk : 0 < k) (hv : Value.okWide P w r b0 t v) (hd : DataW.Trod enc P W 0 (fun _ => true) held t v d ps) :
    ∃ (A : Option Addr) (n c : Nat) (ns : List Int), v = .slice A n c ∧ c ≤ maxLen ∧ (∀ x ∈ ns, p x) ∧ RdS W W.heap.size k A n c (ns.map f) := by
  obtain ⟨A0, n0, c0, rfl⟩ := okWide_slice ht hv
  obtain ⟨fuel, hf⟩ := hd
  exact open_cell_rows hi ht hc hk (y := (d, ps)) (fuel := fuel) hf

theorem names_of_ints : ∀ (n : Nat) (ns : List Int), ns.length = n * 2 → ∃ l : List (Int × Int), ns.map (Value.int .i64) = l.flatMap fun p => [.int .i64 p.1, .int .i64 p.2]
  | 0, ns, h => ⟨[], by rw [List.eq_nil_of_length_eq_zero (l := ns) (by omega)]; rfl⟩
  | n + 1, [], h => by simp at h
  | n + 1, [a], h => by simp at h; omega
  | n + 1, a :: b :: ns, h => by
    obtain ⟨l, hl⟩ := names_of_ints n ns (by simp at h; omega)
    exact ⟨(a, b) :: l, by simp [hl]⟩
end
end Go.Proofs.Ytoiflngpjdghbaa

/- A law's arguments opened, by the type: ints, bools, texts, slices, structs of these. -/
namespace Go.Proofs.Ytoiflngpjdghbaa
open Go.ChangeShapes Go.WideShapes Go.ChangeAt Go.RowKit Go.Deep

section
variable {H : Type} {P : Program} {α β : Type}

/-- What reads as data at type t is the cells of some a with p. -/
def Row1 (H : Type) (P : Program) (t : TypeId) (f : α → List Value) (p : World → α → Prop) : Prop :=
  ∀ (enc : TypeId × Value → H) (w : World) (held : Bool) (fuel : Nat) (cs : List Value) (x : DataW H × List MemPlace),
    DataW.trod enc P w 0 (fun _ => true) held fuel t cs = some x → ∃ a, cs = f a ∧ p w a

theorem row1_int {t : TypeId} (ht : P.underlying t = some (.int .i64)) : Row1 H P t (fun n : Int => [.int .i64 n]) (fun _ n => In64 n) := by
  intro enc w held fuel cs x h
  obtain ⟨n, rfl, _, hw⟩ := DataW.trod_int ht h
  exact ⟨n, rfl, bounds_i64 hw⟩
theorem row1_u8 {t : TypeId} (ht : P.underlying t = some (.int .u8)) : Row1 H P t (fun n : Int => [u8v n]) (fun _ n => 0 ≤ n ∧ n ≤ 255) := by
  intro enc w held fuel cs x h
  obtain ⟨n, rfl, _, hw⟩ := DataW.trod_int ht h
  exact ⟨n, rfl, bounds_u8 hw⟩
theorem row1_bool {t : TypeId} (ht : P.underlying t = some .bool) : Row1 H P t (fun b : Bool => [.bool b]) (fun _ _ => True) := by
  intro enc w held fuel cs x h
  cases fuel with
  | zero => simp [DataW.trod] at h
  | succ m =>
    unfold DataW.trod at h
    rw [ht] at h
    split at h <;> simp_all
theorem row1_string {t : TypeId} (ht : P.underlying t = some .string) : Row1 H P t (fun s : ByteArray => [.string s]) (fun _ s => s.size ≤ maxLen) := by
  intro enc w held fuel cs x h
  obtain ⟨s, rfl, _, hs⟩ := DataW.trod_string ht h
  exact ⟨s, rfl, hs⟩
theorem Row1.map {t : TypeId} {f : α → List Value} {p : World → α → Prop} (h : Row1 H P t f p) (g : α → β) {f' : β → List Value} {p' : World → β → Prop} (hf : ∀ a, f a = f' (g a)) (hp : ∀ w a, p w a → p' w (g a)) : Row1 H P t f' p' := by
  intro enc w held fuel cs x hx
  obtain ⟨a, rfl, ha⟩ := h enc w held fuel cs x hx
  exact ⟨g a, hf a, hp w a ha⟩

/-- What the fields from cell off on read as. -/
def Fields_ (H : Type) (P : Program) (fs : List Field) (off m : Nat) (g : α → List Value) (q : World → α → Prop) : Prop :=
  ∀ (enc : TypeId × Value → H) (w : World) (held : Bool) (n : Nat) (cs : List Value),
    (∀ fl ∈ fs, ∃ y, DataW.trod enc P w 0 (fun _ => true) held n fl.type ((cs.drop fl.offset).take (P.cellsOf fl.type)) = some y) → ∃ a, (cs.drop off).take m = g a ∧ q w a
theorem fields_nil (off : Nat) : Fields_ H P [] off 0 (fun _ : Unit => []) (fun _ _ => True) := fun _ _ _ _ cs _ => ⟨(), by simp, trivial⟩
theorem fields_cons {fl : Field} {fs : List Field} {off k m : Nat} {f : α → List Value} {p : World → α → Prop} {g : β → List Value} {q : World → β → Prop}
    (h : Row1 H P fl.type f p) (ho : fl.offset = off) (hc : P.cellsOf fl.type = k) (hr : Fields_ H P fs (off + k) m g q) :
    Fields_ H P (fl :: fs) off (k + m) (fun ab : α × β => f ab.1 ++ g ab.2) (fun w ab => p w ab.1 ∧ q w ab.2) := by
  intro enc w held n cs hall
  obtain ⟨y, hy⟩ := hall fl (by simp)
  obtain ⟨a, ha, pa⟩ := h _ _ _ _ _ _ hy
  obtain ⟨b, hb, qb⟩ := hr enc w held n cs (fun fl' h' => hall fl' (by simp [h']))
  rw [ho, hc] at ha
  refine ⟨(a, b), ?_, pa, qb⟩
  show _ = f a ++ g b
  rw [← ha, ← hb, List.take_add, List.drop_drop]
theorem row1_struct {t : TypeId} {fs : List Field} {m : Nat} {g : α → List Value} {q : World → α → Prop} (ht : P.underlying t = some (.struct fs.toArray)) (hc : P.cellsOf t = m) (h : Fields_ H P fs 0 m g q) : Row1 H P t g q := by
  intro enc w held fuel cs x hx
  obtain ⟨xs, n, _, _, hl, hlen, hg⟩ := DataW.trod_struct ht hx
  obtain ⟨a, ha, qa⟩ := h enc w held n cs (fun fl hfl => by
    obtain ⟨i, hi⟩ := List.getElem?_of_mem hfl
    have h1 := hg i fl (by simpa using hi)
    have hlt : i < xs.length := by
      rw [hlen]
      simpa using (List.getElem?_eq_some_iff.1 hi).1
    exact ⟨xs[i], by rw [h1, List.getElem?_eq_getElem hlt]⟩)
  refine ⟨a, ?_, qa⟩
  rw [← ha, List.drop_zero, List.take_of_length_le (by omega)]

theorem row1_rows {e : TypeId} {k : Nat} {f : α → List Value} {p : World → α → Prop} (hi : Row1 H P e f p) (hc : P.cellsOf e = k) (hk : ∀ a, (f a).length = k) (enc : TypeId × Value → H) (W : World) (held : Bool) (a : Addr) (nn : Nat) :
    ∀ n : Nat, (∀ i, i < n → ∃ cs' D, W.cells? 0 (a.add (i * P.cellsOf e)) (P.cellsOf e) = some cs' ∧ DataW.trod enc P W 0 (fun _ => true) held nn e cs' = some D) →
      ∃ l : List α, l.length = n ∧ (∀ j u, (rowsV f l)[j]? = some u → W.cell? (a.add j) = some u) ∧ ∀ x ∈ l, p W x
  | 0, _ => ⟨[], rfl, fun j u h => (by simp [rowsV] at h), fun x h => (by cases h)⟩
  | n + 1, h => by
    obtain ⟨l, hl, hq, hp⟩ := row1_rows hi hc hk enc W held a nn n (fun i hi => h i (by omega))
    obtain ⟨cs', D, h1, h2⟩ := h n (by omega)
    obtain ⟨x, rfl, hx⟩ := hi _ _ _ _ _ _ h2
    rw [hc] at h1
    obtain ⟨_, hln, hat⟩ := World.cells?_some h1
    have hlen : (rowsV f l).length = n * k := by rw [rowsV_length f hk, hl]
    refine ⟨l ++ [x], by simp [hl], fun j u hj => ?_, fun y hy => ?_⟩
    · rw [rowsV_app] at hj
      rcases Nat.lt_or_ge j (n * k) with hlt | hge
      · rw [List.getElem?_append_left (by omega)] at hj
        exact hq j u hj
      · rw [List.getElem?_append_right (by omega), hlen] at hj
        simp only [rowsV, List.append_nil] at hj
        have hjk : j - n * k < k := by
          rcases Nat.lt_or_ge (j - n * k) k with h3 | h3
          · exact h3
          · rw [List.getElem?_eq_none (by rw [hk]; exact h3)] at hj
            cases hj
        have h4 := hat (j - n * k) hjk
        rw [hj, add_add, show n * k + (j - n * k) = j by omega] at h4
        exact h4
    · rcases List.mem_append.1 hy with hy | hy
      · exact hp y hy
      · obtain rfl := List.mem_singleton.1 hy
        exact hx

/-- What a slice reads as. -/
def SlOk (k : Nat) (f : α → List Value) (p : World → α → Prop) (w : World) (s : Option Addr × Nat × Nat × List α) : Prop :=
  s.2.2.1 ≤ maxLen ∧ RdS w w.heap.size k s.1 s.2.1 s.2.2.1 (rowsV f s.2.2.2) ∧ ∀ x ∈ s.2.2.2, p w x
def slCells (s : Option Addr × Nat × Nat × List α) : List Value := [.slice s.1 s.2.1 s.2.2.1]
theorem row1_slice {t e : TypeId} {k : Nat} {f : α → List Value} {p : World → α → Prop} (hi : Row1 H P e f p) (ht : P.underlying t = some (.slice e)) (hc : P.cellsOf e = k) (hk : ∀ a, (f a).length = k) (h0 : 0 < k) :
    Row1 H P t (slCells (α := α)) (SlOk k f p) := by
  intro enc W held fuel cs x hf
  rcases open_slice ht hf with ⟨rfl, _⟩ | ⟨a, n, c, m, q, D, Pl, rfl, hb, hl, hm, hmm, hx, hel⟩
  · exact ⟨(none, 0, 0, []), rfl, Nat.zero_le _, ⟨by simp [rowsV], fun _ => ⟨rfl, rfl⟩, Nat.le_refl _, fun a ha => (by cases ha), fun a ha => (by cases ha)⟩, fun x hx => (by cases hx)⟩
  · have hmc : m = c := by simpa using hmm
    clear hmm
    subst m
    obtain ⟨l, hlen, hcell, hp⟩ := row1_rows hi hc hk enc W held a q n (fun i him => by
      obtain ⟨cs', h1, h2⟩ := hel i (by omega)
      exact ⟨cs', _, h1, h2⟩)
    refine ⟨(some a, n, c, l), rfl, hm, ⟨by rw [rowsV_length f hk, hlen], fun e => (by cases e), hl, fun a' ha hn => ?_, fun a' ha j u hu => ?_⟩, hp⟩
    · obtain rfl := Option.some.inj ha
      have h0' : 0 < (rowsV f l).length := by rw [rowsV_length f hk, hlen]; exact Nat.mul_pos hn h0
      have := World.block_lt_of_cell? W _ (hcell 0 _ (List.getElem?_eq_getElem h0'))
      simpa [Addr.add] using this
    · obtain rfl := Option.some.inj ha
      exact hcell j u hu

theorem open_row1_struct {w W : World} {t : TypeId} {fs : Array Field} {f : α → List Value} {p : World → α → Prop} {r : Reach} {b0 : Nat} {enc : TypeId × Value → H} {held : Bool} {v : Value} {d : DataW H} {ps : List MemPlace}
    (hi : Row1 H P t f p) (ht : P.underlying t = some (.struct fs)) (hv : Value.okWide P w r b0 t v) (hd : DataW.Trod enc P W 0 (fun _ => true) held t v d ps) :
    ∃ a, v = .agg (f a).toArray ∧ p W a := by
  simp only [Value.okWide, ht] at hv
  obtain ⟨cs, rfl, _, _⟩ := hv
  obtain ⟨fuel, hf⟩ := hd
  obtain ⟨a, q, ha⟩ := hi _ _ _ _ _ _ hf
  refine ⟨a, ?_, ha⟩
  simp only [Value.cells] at q
  rw [← q, Array.toArray_toList]
theorem open_row1_slice {w W : World} {t e : TypeId} {k : Nat} {f : α → List Value} {p : World → α → Prop} {r : Reach} {b0 : Nat} {enc : TypeId × Value → H} {held : Bool} {v : Value} {d : DataW H} {ps : List MemPlace}
    (hi : Row1 H P e f p) (ht : P.underlying t = some (.slice e)) (hc : P.cellsOf e = k) (hk : ∀ a, (f a).length = k) (h0 : 0 < k)
    (hv : Value.okWide P w r b0 t v) (hd : DataW.Trod enc P W 0 (fun _ => true) held t v d ps) :
    ∃ s : Option Addr × Nat × Nat × List α, v = .slice s.1 s.2.1 s.2.2.1 ∧ SlOk k f p W s := by
  obtain ⟨A0, n0, c0, rfl⟩ := okWide_slice ht hv
  obtain ⟨fuel, hf⟩ := hd
  obtain ⟨s, q, hs⟩ := row1_slice hi ht hc hk h0 _ _ _ _ _ _ hf
  refine ⟨s, ?_, hs⟩
  simpa [Value.cells, slCells] using q
end
end Go.Proofs.Ytoiflngpjdghbaa

/- The contracts of ident.May and MayDart, and of the document's own answer for May. -/
namespace Go.Proofs.Ytoiflngpjdghbaa
open Go.RowKit

/-- A call that answers v and leaves all that was there as it was, in every world. -/
def Pure (k : FuncId) (args : Array Value) (v : Value) : Prop := ∀ w : World, Calls Try.prog k args w fun e w' => e = .returned v ∧ Below w.heap.size w w'

def iv (n : Int) : Value := .int .i64 n
def mayI (s n : Int) : Bool := decide (1 ≤ s ∧ s ≤ 8 ∧ 1 ≤ n ∧ n ≤ 1048576)
def cmpI (a b : Int) : Int := if a < b then -1 else if b < a then 1 else 0
def ordI (s n s' n' : Int) : Int := if s = s' then cmpI n n' else cmpI s s'
def mayD (s n c : Int) : Bool := mayI s n && (decide (c = 0) || decide (c = 1))
def ordD (s n c s' n' c' : Int) : Int := if s = s' ∧ n = n' then cmpI c c' else ordI s n s' n'

theorem ret_int {a b : Int} (h : a = b) : Ending.returned (.int .i64 a) = .returned (.int .i64 b) := by rw [h]
theorem ret_bool {a b : Bool} (h : a = b) : Ending.returned (.bool a) = .returned (.bool b) := by rw [h]

theorem below1 (w : World) (o : Obj) : Below w.heap.size w (w.alloc o) := (Below.refl _ _).alloc (Nat.le_refl _) o
theorem below2 (w : World) (o o' : Obj) : Below w.heap.size w ((w.alloc o).alloc o') := (below1 w o).alloc (by simp) o'

theorem may_yes (s n : Int) (w : World) (h1 : 1 ≤ s) (h2 : s ≤ 8) (h3 : 1 ≤ n) (h4 : n ≤ 1048576) :
    Calls Try.prog 45 #[.agg #[.int .i64 s, .int .i64 n]] w fun e w' => e = .returned (.bool true) ∧ Below w.heap.size w w' := by
  go_enter Try.func45, Try.ntmps45
  go_wp2
  go_ret
  exact ⟨rfl, below1 _ _⟩

theorem may_no (s n : Int) (w : World) (h : ¬ (1 ≤ s ∧ s ≤ 8 ∧ 1 ≤ n ∧ n ≤ 1048576)) :
    Calls Try.prog 45 #[.agg #[.int .i64 s, .int .i64 n]] w fun e w' => e = .returned (.bool false) ∧ Below w.heap.size w w' := by
  by_cases h1 : 1 ≤ s
  · by_cases h2 : s ≤ 8
    · by_cases h3 : 1 ≤ n
      · have h4 : ¬ n ≤ 1048576 := by omega
        go_enter Try.func45, Try.ntmps45
        go_wp2
        go_ret
        exact ⟨rfl, below1 _ _⟩
      · clear h
        go_enter Try.func45, Try.ntmps45
        go_wp2
        go_ret
        exact ⟨rfl, below1 _ _⟩
    · clear h
      go_enter Try.func45, Try.ntmps45
      go_wp2
      go_ret
      exact ⟨rfl, below1 _ _⟩
  · clear h
    go_enter Try.func45, Try.ntmps45
    go_wp2
    go_ret
    exact ⟨rfl, below1 _ _⟩

theorem may_any (s n : Int) : Pure 45 #[.agg #[.int .i64 s, .int .i64 n]] (.bool (mayI s n)) := fun w => by
  by_cases h : 1 ≤ s ∧ s ≤ 8 ∧ 1 ≤ n ∧ n ≤ 1048576
  · rw [show mayI s n = true from decide_eq_true h]
    exact may_yes s n w h.1 h.2.1 h.2.2.1 h.2.2.2
  · rw [show mayI s n = false from decide_eq_false h]
    exact may_no s n w h

theorem below_after1 {w w1 : World} {o : Obj} (hb : Below (w.alloc o).heap.size (w.alloc o) w1) : Below w.heap.size w w1 := (below1 w o).trans (hb.mono (by simp))
theorem below_after2 {w w1 : World} {o o' : Obj} (hb : Below ((w.alloc o).alloc o').heap.size ((w.alloc o).alloc o') w1) : Below w.heap.size w w1 := (below2 w o o').trans (hb.mono (by simp; omega))

theorem bcell {W w1 : World} (hb : Below W.heap.size W w1) : (∀ b o, b < W.heap.size → w1.cell? ⟨b, o, none⟩ = W.cell? ⟨b, o, none⟩) ∧ (∀ b o, b < W.heap.size → w1.frozen? ⟨b, o, none⟩ = W.frozen? ⟨b, o, none⟩) :=
  ⟨fun _ _ h => hb.cell h, fun _ _ h => hb.frozen h⟩

theorem maydart_may (s n c : Int) (w : World) (h : mayI s n = true) :
    Calls Try.prog 71 #[.agg #[.int .i64 s, .int .i64 n, .int .i64 c]] w fun e w' => e = .returned (.bool (decide (c = 0) || decide (c = 1))) ∧ Below w.heap.size w w' := by
  have hm := may_any s n
  rw [h] at hm
  have H := Lib.hid hm
  clear hm h
  by_cases c0 : c = 0
  · subst c0
    go_enter Try.func71, Try.ntmps71
    go_wp2_with (first | (go_at_call 45; refine (H.out _).mono ?_; rintro e w' ⟨rfl, hb⟩; obtain ⟨hc, hf⟩ := bcell hb))
    go_ret
    exact ⟨rfl, below_after1 hb⟩
  · have h0 : (c == 0) = false := by simpa using c0
    by_cases c1 : c = 1
    · subst c1
      go_enter Try.func71, Try.ntmps71
      go_wp2_with (first | (go_at_call 45; refine (H.out _).mono ?_; rintro e w' ⟨rfl, hb⟩; obtain ⟨hc, hf⟩ := bcell hb))
      go_ret
      exact ⟨rfl, below_after1 hb⟩
    · have h1 : (c == 1) = false := by simpa using c1
      have hr : (decide (c = 0) || decide (c = 1)) = false := by simp [c0, c1]
      rw [hr]
      clear hr
      go_enter Try.func71, Try.ntmps71
      go_wp2_with (first | (go_at_call 45; refine (H.out _).mono ?_; rintro e w' ⟨rfl, hb⟩; obtain ⟨hc, hf⟩ := bcell hb))
      go_ret
      exact ⟨rfl, below_after1 hb⟩

theorem maydart_not (s n c : Int) (w : World) (h : mayI s n = false) :
    Calls Try.prog 71 #[.agg #[.int .i64 s, .int .i64 n, .int .i64 c]] w fun e w' => e = .returned (.bool false) ∧ Below w.heap.size w w' := by
  have hm := may_any s n
  rw [h] at hm
  have H := Lib.hid hm
  clear hm h
  go_enter Try.func71, Try.ntmps71
  go_wp2_with (first | (go_at_call 45; refine (H.out _).mono ?_; rintro e w' ⟨rfl, hb⟩; obtain ⟨hc, hf⟩ := bcell hb))
  go_ret
  exact ⟨rfl, below_after1 hb⟩

theorem maydart_any (s n c : Int) : Pure 71 #[.agg #[.int .i64 s, .int .i64 n, .int .i64 c]] (.bool (mayD s n c)) := fun w => by
  unfold mayD
  cases h : mayI s n
  · exact maydart_not s n c w h
  · exact maydart_may s n c w h

theorem rmay_any (s n : Int) : Pure 50 #[.agg #[.int .i64 s, .int .i64 n]] (.bool (mayI s n)) := fun w => by
  by_cases h : 1 ≤ s ∧ s ≤ 8 ∧ 1 ≤ n ∧ n ≤ 1048576
  · rw [show mayI s n = true from decide_eq_true h]
    obtain ⟨h1, h2, h3, h4⟩ := h
    go_enter Try.func50, Try.ntmps50
    go_wp2
    go_ret
    exact ⟨rfl, below1 _ _⟩
  · rw [show mayI s n = false from decide_eq_false h]
    by_cases h1 : 1 ≤ s
    · by_cases h2 : s ≤ 8
      · by_cases h3 : 1 ≤ n
        · have h4 : ¬ n ≤ 1048576 := by omega
          clear h
          go_enter Try.func50, Try.ntmps50
          go_wp2
          go_ret
          exact ⟨rfl, below1 _ _⟩
        · clear h
          go_enter Try.func50, Try.ntmps50
          go_wp2
          go_ret
          exact ⟨rfl, below1 _ _⟩
      · clear h
        go_enter Try.func50, Try.ntmps50
        go_wp2
        go_ret
        exact ⟨rfl, below1 _ _⟩
    · clear h
      go_enter Try.func50, Try.ntmps50
      go_wp2
      go_ret
      exact ⟨rfl, below1 _ _⟩

end Go.Proofs.Ytoiflngpjdghbaa

/- The contract of the document's own MayDart. -/
namespace Go.Proofs.Ytoiflngpjdghbaa
open Go.RowKit

theorem rmaydart_may (s n c : Int) (w : World) (h : mayI s n = true) :
    Calls Try.prog 65 #[.agg #[.int .i64 s, .int .i64 n, .int .i64 c]] w fun e w' => e = .returned (.bool (decide (c = 0) || decide (c = 1))) ∧ Below w.heap.size w w' := by
  have hm := rmay_any s n
  rw [h] at hm
  have H := Lib.hid hm
  clear hm h
  by_cases c0 : c = 0
  · subst c0
    go_enter Try.func65, Try.ntmps65
    go_wp2_with (first | (go_at_call 50; refine (H.out _).mono ?_; rintro e w' ⟨rfl, hb⟩; obtain ⟨hc, hf⟩ := bcell hb))
    go_ret
    exact ⟨rfl, below_after1 hb⟩
  · have h0 : (c == 0) = false := by simpa using c0
    by_cases c1 : c = 1
    · subst c1
      go_enter Try.func65, Try.ntmps65
      go_wp2_with (first | (go_at_call 50; refine (H.out _).mono ?_; rintro e w' ⟨rfl, hb⟩; obtain ⟨hc, hf⟩ := bcell hb))
      go_ret
      exact ⟨rfl, below_after1 hb⟩
    · have h1 : (c == 1) = false := by simpa using c1
      have hr : (decide (c = 0) || decide (c = 1)) = false := by simp [c0, c1]
      rw [hr]
      clear hr
      go_enter Try.func65, Try.ntmps65
      go_wp2_with (first | (go_at_call 50; refine (H.out _).mono ?_; rintro e w' ⟨rfl, hb⟩; obtain ⟨hc, hf⟩ := bcell hb))
      go_ret
      exact ⟨rfl, below_after1 hb⟩

theorem rmaydart_not (s n c : Int) (w : World) (h : mayI s n = false) :
    Calls Try.prog 65 #[.agg #[.int .i64 s, .int .i64 n, .int .i64 c]] w fun e w' => e = .returned (.bool false) ∧ Below w.heap.size w w' := by
  have hm := rmay_any s n
  rw [h] at hm
  have H := Lib.hid hm
  clear hm h
  go_enter Try.func65, Try.ntmps65
  go_wp2_with (first | (go_at_call 50; refine (H.out _).mono ?_; rintro e w' ⟨rfl, hb⟩; obtain ⟨hc, hf⟩ := bcell hb))
  go_ret
  exact ⟨rfl, below_after1 hb⟩

theorem rmaydart_any (s n c : Int) : Pure 65 #[.agg #[.int .i64 s, .int .i64 n, .int .i64 c]] (.bool (mayD s n c)) := fun w => by
  unfold mayD
  cases h : mayI s n
  · exact rmaydart_not s n c w h
  · exact rmaydart_may s n c w h

end Go.Proofs.Ytoiflngpjdghbaa

/- The contracts of diagram.MayLabel and of the document's own. -/
namespace Go.Proofs.Ytoiflngpjdghbaa
open Go.RowKit
set_option linter.unusedSimpArgs false
set_option linter.unusedVariables false

def okB (c : UInt8) : Bool := decide (32 ≤ c.toNat ∧ c.toNat ≤ 126)
/-- A label that may be. -/
def mayL (s : ByteArray) : Bool := decide (s.size ≤ 16) && s.data.toList.all okB

theorem takeB_snoc (s : ByteArray) (k : Nat) (h : k < s.size) : s.data.toList.take (k + 1) = s.data.toList.take k ++ [s[k]] := by
  rw [List.take_succ_eq_append_getElem (by simpa using h)]; rfl
theorem allB_step (s : ByteArray) (k : Nat) (h : k < s.size) (ha : (s.data.toList.take k).all okB = true) (hk : okB s[k] = true) : (s.data.toList.take (k + 1)).all okB = true := by
  rw [takeB_snoc s k h, List.all_append, ha]
  simp [hk]
theorem allB_not (s : ByteArray) (k : Nat) (h : k < s.size) (hk : okB s[k] = false) : s.data.toList.all okB = false := by
  rw [List.all_eq_false]
  refine ⟨s[k], ?_, by simp [hk]⟩
  show s.data[k] ∈ s.data.toList
  simp
theorem allB_all (s : ByteArray) (k : Nat) (h : s.size ≤ k) (ha : (s.data.toList.take k).all okB = true) : s.data.toList.all okB = true := by
  rwa [List.take_of_length_le (by simpa using h)] at ha

/-- The rune at a place: the byte itself where it is below 128; else one above 126. -/
theorem decode_is (s : ByteArray) (pos : Nat) (h : pos < s.size) : ∃ c wd, Utf8.decode s pos = (c, wd) ∧ 1 ≤ wd ∧ ((s[pos].toNat < 128 ∧ c = s[pos].toNat ∧ wd = 1) ∨ (128 ≤ s[pos].toNat ∧ 128 ≤ c)) := by
  by_cases ha : s[pos].toNat < 128
  · exact ⟨_, _, decode_ascii s pos h ha, Nat.le_refl _, .inl ⟨ha, rfl, rfl⟩⟩
  · have hh := decode_high s pos h (by omega)
    exact ⟨_, _, rfl, hh.2, .inr ⟨by omega, hh.1⟩⟩

theorem run_next_is (P : Program) (w : World) (s : ByteArray) (pos : Nat) (h : pos < s.size) {c wd : Nat} (hd : Utf8.decode s pos = (c, wd)) (ty : TypeId) :
    (Instr.next (.pointer (some ⟨w.heap.size, 0, none⟩)) true ty).run P (w.iter s pos) = .ok (.tuple #[.bool true, .int .i64 pos, .int .i32 c]) (w.iter s (pos + wd)) := by
  simp only [Instr.next, getObj, setObj, Sem.run_bind, Sem.run, World.iter_heap, Result.andThen, h, if_true, hd, World.iter_set]
  simp [goInt, Sem.run, World.iter_heap, World.iter_set]

set_option maxRecDepth 100000 in
theorem maylabel_any (s : ByteArray) : Pure 48 #[.string s] (.bool (mayL s)) := fun w => by
  by_cases h16 : s.size ≤ 16
  case neg =>
    have hr : mayL s = false := by simp [mayL, h16]
    have hq : decide ((16 : Int) < (s.size : Int)) = true := decide_eq_true (by omega)
    rw [hr]
    clear hr h16
    go_enter Try.func48, Try.ntmps48
    go_wp2
    go_ret
    exact ⟨rfl, Below.refl _ _⟩
  have hq : decide ((16 : Int) < (s.size : Int)) = false := decide_eq_false (by omega)
  have HS := Lib.hid h16
  clear h16
  go_enter Try.func48, Try.ntmps48
  go_wp2
  clear hq
  go_loopw [] (fun w' => ∃ pos : Nat, w' = w.iter s pos ∧ (s.data.toList.take pos).all okB = true) (fun w' => s.size - w'.iterPos w.heap.size)
  case atStart => exact ⟨0, rfl, by simp⟩
  case round =>
    obtain ⟨pos, rfl, ha⟩ := hrel
    have HA := Lib.hid ha
    clear ha
    by_cases hp : pos < s.size
    · obtain ⟨c, wd, hd, hwd, hc⟩ := decode_is s pos hp
      have hnx := fun ty => run_next_is Try.prog w s pos hp hd ty
      have HW := Lib.hid hwd
      clear hd hwd
      by_cases c1 : 32 ≤ c
      · by_cases c2 : c ≤ 126
        · have q1 : decide ((c : Int) < 32) = false := decide_eq_false (by omega)
          have q2 : decide ((126 : Int) < (c : Int)) = false := decide_eq_false (by omega)
          have HC1 := Lib.hid c1
          have HC2 := Lib.hid c2
          clear c1 c2
          have HC := Lib.hid hc
          have HP := Lib.hid hp
          clear hc
          go_wp2
          go_roundw
          case rel =>
            rcases HC.out with ⟨h1, rfl, rfl⟩ | ⟨h1, h2⟩
            · exact ⟨pos + 1, rfl, allB_step s pos hp HA.out (by have a := HC1.out; have b := HC2.out; simpa [okB] using ⟨a, b⟩)⟩
            · have := HC2.out
              omega
          case measure =>
            have a := hp
            have b := HW.out
            simp
            omega
        · have q1 : decide ((c : Int) < 32) = false := decide_eq_false (by omega)
          have q2 : decide ((126 : Int) < (c : Int)) = true := decide_eq_true (by omega)
          have hr : mayL s = false := by
            have : okB (s[pos]'hp) = false := by
              rcases hc with ⟨h1, h2, h3⟩ | ⟨h1, h2⟩
              · simp [okB]; omega
              · simp [okB]; omega
            simp [mayL, allB_not s pos hp this]
          have HR := Lib.hid hr
          clear c1 c2 hr
          go_wp2
          go_ret
          exact ⟨ret_bool HR.out.symm, below1 _ _⟩
      · have q1 : decide ((c : Int) < 32) = true := decide_eq_true (by omega)
        have hr : mayL s = false := by
          have : okB (s[pos]'hp) = false := by
            rcases hc with ⟨h1, h2, h3⟩ | ⟨h1, h2⟩
            · simp [okB]; omega
            · omega
          simp [mayL, allB_not s pos hp this]
        have HR := Lib.hid hr
        clear c1 hr
        go_wp2
        go_ret
        exact ⟨ret_bool HR.out.symm, below1 _ _⟩
    · have hr : mayL s = true := by simp [mayL, HS.out, allB_all s pos (by omega) HA.out]
      have hnx : ∀ ty, (Instr.next (.pointer (some ⟨w.heap.size, 0, none⟩)) true ty).run Try.prog (w.iter s pos) = _ := fun ty => run_next_end w s pos ty hp
      have HR := Lib.hid hr
      clear hp hr
      go_wp2
      go_ret
      exact ⟨ret_bool HR.out.symm, below1 _ _⟩

set_option maxRecDepth 100000 in
theorem rmaylabel_any (s : ByteArray) (hs : s.size ≤ maxLen) : Pure 54 #[.string s] (.bool (mayL s)) := fun w => by
  unfold maxLen at hs
  go_enter Try.func54, Try.ntmps54
  go_wp2
  go_loop [3] (fun i => ∃ k : Nat, k ≤ s.size ∧ i = .int .i64 k ∧ (s.data.toList.take k).all okB = true) (fun i => s.size - (intOf i).toNat)
  case atStart => exact ⟨0, Nat.zero_le _, rfl, by simp⟩
  case round =>
    obtain ⟨k, hk, rfl, ha⟩ := hrel
    have HA := Lib.hid ha
    clear ha
    by_cases hlt : k < s.size
    · obtain ⟨c, gc⟩ : ∃ c : UInt8, c = s[k] := ⟨_, rfl⟩
      have HGC := Lib.hid gc
      by_cases c1 : 32 ≤ c.toNat
      · by_cases c2 : c.toNat ≤ 126
        · have q1 : decide ((c.toNat : Int) < 32) = false := decide_eq_false (by omega)
          have q2 : decide ((126 : Int) < (c.toNat : Int)) = false := decide_eq_false (by omega)
          rw [gc] at q1 q2
          have HK : RowKit.Hid (okB c = true) := Lib.hid (by simp [okB]; omega)
          clear c1 c2 gc
          go_wp2
          go_round
          case rel => exact ⟨k + 1, by omega, by go_num, allB_step s k hlt HA.out (HGC.out ▸ HK.out)⟩
          case measure => simp [intOf]; omega
        · have q1 : decide ((c.toNat : Int) < 32) = false := decide_eq_false (by omega)
          have q2 : decide ((126 : Int) < (c.toNat : Int)) = true := decide_eq_true (by omega)
          rw [gc] at q1 q2
          have hr : mayL s = false := by
            have : okB (s[k]'hlt) = false := by rw [← gc]; simp [okB]; omega
            simp [mayL, allB_not s k hlt this]
          have HR := Lib.hid hr
          clear c1 c2 gc hr
          go_wp2
          go_ret
          exact ⟨ret_bool HR.out.symm, Below.refl _ _⟩
      · have q1 : decide ((c.toNat : Int) < 32) = true := decide_eq_true (by omega)
        rw [gc] at q1
        have hr : mayL s = false := by
          have : okB (s[k]'hlt) = false := by rw [← gc]; simp [okB]; omega
          simp [mayL, allB_not s k hlt this]
        have HR := Lib.hid hr
        clear c1 gc hr
        go_wp2
        go_ret
        exact ⟨ret_bool HR.out.symm, Below.refl _ _⟩
    · have hr : mayL s = decide (s.size ≤ 16) := by simp [mayL, allB_all s k (by omega) HA.out]
      by_cases h16 : s.size ≤ 16
      · rw [decide_eq_true h16] at hr
        have HR := Lib.hid hr
        have q : decide ((s.size : Int) ≤ 16) = true := decide_eq_true (by omega)
        clear hr h16
        go_wp2
        go_ret
        exact ⟨ret_bool HR.out.symm, Below.refl _ _⟩
      · rw [decide_eq_false h16] at hr
        have HR := Lib.hid hr
        have q : decide ((s.size : Int) ≤ 16) = false := decide_eq_false (by omega)
        clear hr h16
        go_wp2
        go_ret
        exact ⟨ret_bool HR.out.symm, Below.refl _ _⟩
end Go.Proofs.Ytoiflngpjdghbaa

/- Bytes in memory: words that every layer of bytes wants; bytes.Clone. -/
namespace Go.Proofs.Ytoiflngpjdghbaa
open Go.RowKit
set_option linter.unusedSimpArgs false
set_option linter.unusedVariables false

theorem below_drewN (B : Nat) (w : World) (n : Nat) : Below B w (w.drewN n) := ⟨rfl, rfl, rfl, Nat.le_refl _, fun _ _ => rfl⟩
def f8 (b : Nat) : List Value := [.int .u8 (b : Int)]
theorem f8_len (b : Nat) : (f8 b).length = 1 := rfl
theorem f8_one (b : Nat) : ∀ u ∈ f8 b, u.oneCell' = true := by simp [f8, Value.oneCell']
theorem take_snoc_ {α : Type} (l : List α) (k : Nat) (x : α) (h : l[k]? = some x) : l.take (k + 1) = l.take k ++ [x] := by
  rw [List.take_add_one, h]
  rfl
theorem rds_drew {w : World} {B size n c : Nat} {A : Option Addr} {xs : List Value} (h : RdS w B size A n c xs) : RdS w.drew B size A n c xs := h.keep fun _ _ => rfl
theorem rds_nil (w : World) (B size : Nat) : RdS w B size none 0 0 [] := ⟨by simp, fun _ => ⟨rfl, rfl⟩, Nat.le_refl _, fun a ha => (by cases ha), fun a ha => (by cases ha)⟩
theorem Whole.conv {w : World} {g : Nat} {t : TypeId} {cs cs' : List Value} (h : Whole w g t cs) (e : cs = cs') : Whole w g t cs' := e ▸ h
theorem info_u8 : (Try.prog.info? 5).map (fun i => (i.zero, i.size, i.bytes)) = some (some (.int .u8 0), 1, 1) := by kernel_rfl
theorem info_parts_ {o : Option TypeInfo} {z : Value} {s b : Nat} (h : o.map (fun i => (i.zero, i.size, i.bytes)) = some (some z, s, b)) : ∃ i, o = some i ∧ i.zero = some z ∧ i.size = s ∧ i.bytes = b := by
  cases o with
  | none => simp at h
  | some i => simp at h; exact ⟨i, rfl, h⟩
theorem f8_all (L : List Nat) : ∀ u ∈ rowsV f8 L, u.oneCell' = true := rowsV_one f8 f8_one L
theorem RdS.of_whole8 {W : World} {g : Nat} {t : TypeId} {cs : List Value} {n size : Nat} (h : Whole W g t cs) (hl : cs.length = n * size) : RdS W W.heap.size size (some ⟨g, 0, none⟩) n n cs :=
  ⟨hl, fun e => (by cases e), Nat.le_refl _, fun a ha _ => (by obtain rfl := Option.some.inj ha; exact h.lt), fun a ha j u hu => (by
    obtain rfl := Option.some.inj ha
    have hadd : (⟨g, 0, none⟩ : Addr).add j = ⟨g, j, none⟩ := by unfold Addr.add; split <;> simp_all
    rw [hadd]
    exact h.cell hu)⟩

theorem own_lo8 {w : World} {B B' n : Nat} {e : TypeId} {size : Nat} {v : Value} {xs : List Value} (h : w.ownsRow B e size v n xs) (hB : B' ≤ B) : w.ownsRow B' e size v n xs := by
  refine ⟨h.1, ?_⟩
  rcases h.2 with h | ⟨g, cap, cur, h1, h2, h3⟩
  · exact .inl h
  · exact .inr ⟨g, cap, cur, h1, Nat.le_trans hB h2, h3⟩
theorem RdS.fewer8 {w : World} {B n c : Nat} {A : Option Addr} {L : List Nat} (h : RdS w B 1 A n c (rowsV f8 L)) (k : Nat) : RdS w B 1 A (L.take k).length c (rowsV f8 (L.take k)) := by
  have hl := h.rlen f8_len (by decide)
  have hm : (L.take k).length ≤ n := by rw [List.length_take]; omega
  have := h.take_ (L.take k).length hm
  rw [← rowsV_take f8 f8_len] at this
  have e : L.take (L.take k).length = L.take k := by
    rw [List.length_take]
    rcases Nat.le_total k L.length with h | h
    · rw [Nat.min_eq_left h]
    · rw [Nat.min_eq_right h, List.take_length, List.take_of_length_le h]
  rwa [e] at this
/-- The text of bytes. -/
def txt (L : List Nat) : ByteArray := strB (L.map (fun b : Nat => (b : Int)))
theorem rows_bytes (L : List Nat) : rowsV f8 L = bytesV (L.map (fun b : Nat => (b : Int))) := by
  induction L with
  | nil => rfl
  | cons b L ih => simp only [rowsV, f8, ih]; rfl
theorem conv_txt {w : World} {B n c : Nat} {A : Option Addr} {L : List Nat} (h : RdS w B 1 A n c (rowsV f8 L)) : (convert 22 9 (.slice A n c)).run Try.prog w = .ok (.string (txt L)) w := by
  rw [rows_bytes] at h
  exact conv_rds Try.underlying22 Try.underlying5 Try.underlying9 h
theorem exec_convert {P : Program} {ev : Operand → Value} {o : Oper} {w : World} (s d : TypeId) (x : Operand) (ho : o.op = .convert s d x) {v u : Value} (hx : ev x = v) (hrun : (convert s d v).run P w = .ok u w) : (execOp ev o).run P w = .ok (.value u) w := by
  unfold execOp
  simp only [ho, hx, Sem.run_bind, Sem.run_pure, Result.andThen_ok, hrun]
theorem push_bytes (bs : List Int) : ∀ r : ByteArray, (bs.foldl (fun r n => r.push (UInt8.ofNat n.toNat)) r).data.toList = r.data.toList ++ bs.map fun n => UInt8.ofNat n.toNat := by
  induction bs with
  | nil => intro r; simp
  | cons b bs ih => intro r; rw [List.foldl_cons, ih]; simp [ByteArray.push]
theorem txt_list (L : List Nat) : (txt L).toList = L.map UInt8.ofNat := by
  rw [ByteArray.toList_eq]
  unfold txt strB
  rw [push_bytes]
  simp [Function.comp_def]
theorem ofNat_inj {a b : Nat} (ha : a < 256) (hb : b < 256) (h : UInt8.ofNat a = UInt8.ofNat b) : a = b := by
  have := congrArg UInt8.toNat h
  rw [UInt8.toNat_ofNat', UInt8.toNat_ofNat'] at this
  omega
theorem map_ofNat_inj : ∀ {P Q : List Nat}, (∀ b ∈ P, b < 256) → (∀ b ∈ Q, b < 256) → P.map UInt8.ofNat = Q.map UInt8.ofNat → P = Q
  | [], [], _, _, _ => rfl
  | [], _ :: _, _, _, h => by simp at h
  | _ :: _, [], _, _, h => by simp at h
  | a :: P, b :: Q, hp, hq, h => by
    simp only [List.map_cons, List.cons.injEq] at h
    rw [ofNat_inj (hp a (by simp)) (hq b (by simp)) h.1, map_ofNat_inj (fun x hx => hp x (by simp [hx])) (fun x hx => hq x (by simp [hx])) h.2]
theorem txt_eq {P Q : List Nat} (hp : ∀ b ∈ P, b < 256) (hq : ∀ b ∈ Q, b < 256) : ((txt P).toList == (txt Q).toList) = decide (P = Q) := by
  rw [txt_list, txt_list]
  by_cases h : P = Q
  · subst h; simp
  · rw [decide_eq_false h, beq_eq_false_iff_ne]; exact fun e => h (map_ofNat_inj hp hq e)
/-- A slice of the call's own making. -/
def Gives8 (w : World) (L : List Nat) (e : Ending) (w' : World) : Prop :=
  ∃ A c, e = .returned (.slice A L.length c) ∧ RdS w' w'.heap.size 1 A L.length c (rowsV f8 L) ∧ (∀ a, A = some a → 0 < L.length → w.heap.size ≤ a.block) ∧ w'.ownsRow w.heap.size 5 1 (.slice A L.length c) L.length (rowsV f8 L) ∧ Below w.heap.size w w'
set_option maxRecDepth 100000 in
set_option maxHeartbeats 1000000 in
theorem clone8_1 (a : Addr) (n c : Nat) (L : List Nat) (w : World) (h : RdS w w.heap.size 1 (some a) n c (rowsV f8 L)) (hn : n ≤ 100000) :
    Calls Try.prog 19 #[.slice (some a) n c] w (Gives8 w L) := by
  have hl := h.rlen f8_len (by decide)
  obtain rfl := hl
  obtain ⟨i0, hi, hz0, hz1, hz2⟩ := info_parts_ info_u8
  have HR := Lib.hid h
  clear h
  have HP : RowKit.Hid (Ow w w.heap.size 5 1 (.slice (some ⟨w.heap.size, 0, none⟩) 0 0) 0 [] (w.alloc (.cells #[] 5))) := Lib.hid (Ow.new_ (cs := #[]) (Below.refl _ _) (Nat.le_refl _) (Nat.le_refl _) (Nat.zero_le _) rfl)
  have HR1 := Lib.hid (HR.out.al (.cells #[] 5))
  have hnil : ∀ w', (binOp .eql 22 (.slice (some a) L.length c) (.slice none 0 0)).run Try.prog w' = .ok (.bool false) w' := fun w' => Lib.run_eql_slice_nil w' _ _ _ _ _ _ _ Try.underlying22
  go_enter Try.func19, Try.ntmps19
  go_wp2_with (first
    | (at_builtin
       refine wpList_push2 rfl (.tmp 5) (.tmp 6) _ rfl _ 5 i0 _ 1 1 Try.underlying22 hi hz0 hz1 hz2 rfl (by decide) _ _ _ rfl HP.out _ _ _ _ _ rfl HR1.out (f8_all L) (by unfold maxLen; omega) (by omega) ?_
       intro v1 W5 how1 hb1 hgr1
       rw [Nat.zero_add, List.nil_append] at how1
       obtain ⟨A5, c5, rfl, hr5⟩ := how1.rds
       have HP5 := Lib.hid how1
       have HR5 := Lib.hid hr5
       clear how1 hb1 hgr1 hr5))
  go_ret
  exact ⟨A5, c5, rfl, HR5.out, fun a ha _ => by subst ha; exact (HP5.out.own.lt a.block rfl).1, HP5.out.own, HP5.out.below⟩
set_option maxRecDepth 100000 in
theorem clone8 (A : Option Addr) (c : Nat) (L : List Nat) (w : World) (h : RdS w w.heap.size 1 A L.length c (rowsV f8 L)) (hn : L.length ≤ 100000) :
    Calls Try.prog 19 #[.slice A L.length c] w (Gives8 w L) := by
  cases A with
  | some a => exact clone8_1 a L.length c L w h hn
  | none =>
    obtain ⟨h1, rfl⟩ := h.none_ rfl
    obtain rfl : L = [] := List.eq_nil_of_length_eq_zero h1
    have hnil : ∀ w', (binOp .eql 22 (.slice none 0 0) (.slice none 0 0)).run Try.prog w' = .ok (.bool true) w' := fun w' => Lib.run_eql_slice_nil w' _ _ _ _ _ _ _ Try.underlying22
    clear h hn h1
    show Calls Try.prog 19 #[.slice none 0 0] w (Gives8 w [])
    go_enter Try.func19, Try.ntmps19
    go_wp2
    go_ret
    exact ⟨none, 0, rfl, rds_nil _ _ _, fun a ha => (by cases ha), World.ownsRow_nil _ _ _ _, Below.refl _ _⟩
theorem rowsV_map8 (L : List Nat) : rowsV f8 L = L.map (fun b : Nat => Value.int .u8 (b : Int)) := by
  induction L with
  | nil => rfl
  | cons b L ih => simp only [rowsV, f8, ih]; rfl
end Go.Proofs.Ytoiflngpjdghbaa

/- Numbers and texts as bytes; names as bytes: numbers alone. -/
namespace Go.Proofs.Ytoiflngpjdghbaa
open Go.RowKit
set_option linter.unusedSimpArgs false
set_option linter.unusedVariables false

/-- The last k bytes of a number, the highest first. -/
def beN : Nat → Nat → List Nat
  | 0, _ => []
  | k + 1, u => beN k (u / 256) ++ [u % 256]
theorem beN_len : ∀ (k u : Nat), (beN k u).length = k
  | 0, _ => rfl
  | k + 1, u => by rw [beN, List.length_append, beN_len k]; rfl
theorem beN_lt : ∀ (k u : Nat), ∀ b ∈ beN k u, b < 256
  | 0, _, b, hb => (by cases hb)
  | k + 1, u, b, hb => by
    rw [beN] at hb
    rcases List.mem_append.1 hb with h | h
    · exact beN_lt k _ b h
    · rw [List.mem_singleton.1 h]; omega
/-- A number out of bytes. -/
def deN (L : List Nat) : Nat := L.foldl (fun u c => u * 256 + c) 0
theorem deN_snoc (L : List Nat) (c : Nat) : deN (L ++ [c]) = deN L * 256 + c := by simp [deN, List.foldl_append]
theorem deN_beN : ∀ (k u : Nat), deN (beN k u) = u % 256 ^ k
  | 0, u => by simp [beN, deN, Nat.mod_one]
  | k + 1, u => by
    rw [beN, deN_snoc, deN_beN k, Nat.pow_succ, Nat.mul_comm (256 ^ k) 256, Nat.mod_mul]
    omega
theorem deN_lt {L : List Nat} (h : ∀ b ∈ L, b < 256) : ∀ k, k ≤ L.length → deN (L.take k) < 256 ^ k
  | 0, _ => by simp [deN]
  | k + 1, hk => by
    have h1 := deN_lt h k (by omega)
    have h2 := h L[k] (List.getElem_mem (by omega))
    rw [List.take_succ_eq_append_getElem (by omega), deN_snoc, Nat.pow_succ]
    omega
/-- A whole number as it lies in eight bytes. -/
def u64 (x : Int) : Nat := (x % 18446744073709551616).toNat
def be8 (x : Int) : List Nat := beN 8 (u64 x)
/-- The number in eight bytes. -/
def num8 (L : List Nat) : Int := IntKind.i64.wrap (deN L : Int)
theorem be8_len (x : Int) : (be8 x).length = 8 := beN_len 8 _
theorem be8_lt (x : Int) : ∀ b ∈ be8 x, b < 256 := beN_lt 8 _
theorem u64_lt (x : Int) : u64 x < 18446744073709551616 := by unfold u64; omega
theorem wrap_u64 (x : Int) (h : In64 x) : IntKind.i64.wrap (u64 x : Int) = x := by
  obtain ⟨h1, h2⟩ := h
  have e : (u64 x : Int) = x % 18446744073709551616 := by unfold u64; omega
  rw [e]
  by_cases h0 : 0 ≤ x
  · rw [Int.emod_eq_of_lt h0 (by omega)]; exact IntWalk.i64_in _ (by omega)
  · rw [show x % 18446744073709551616 = x + 18446744073709551616 by omega]
    rw [IntKind.wrap_i64]
    omega
theorem num8_be8 (x : Int) (h : In64 x) : num8 (be8 x) = x := by
  unfold num8 be8
  rw [deN_beN, Nat.mod_eq_of_lt (by have := u64_lt x; omega), wrap_u64 x h]
/-- A text's bytes. -/
def tB (s : ByteArray) : List Nat := s.toList.map UInt8.toNat
theorem tB_len (s : ByteArray) : (tB s).length = s.size := by simp [tB, ByteArray.toList_eq]
theorem tB_lt (s : ByteArray) : ∀ b ∈ tB s, b < 256 := by
  intro b hb
  obtain ⟨c, -, rfl⟩ := List.mem_map.1 hb
  exact c.toNat_lt
theorem txt_tB (s : ByteArray) : txt (tB s) = s := by
  have h : (txt (tB s)).toList = s.toList := by
    rw [txt_list, tB, List.map_map]
    conv => rhs; rw [← List.map_id s.toList]
    exact List.map_congr_left fun c _ => by simp
  rw [ByteArray.toList_eq, ByteArray.toList_eq] at h
  exact ByteArray.ext (Array.toList_inj.1 h)
/-- A text with its length. -/
def textB (s : ByteArray) : List Nat := [s.size % 256] ++ tB s
theorem textB_lt (s : ByteArray) : ∀ b ∈ textB s, b < 256 := by
  intro b hb
  rcases List.mem_append.1 hb with h | h
  · rw [List.mem_singleton.1 h]; omega
  · exact tB_lt s b h
/-- A name's four bytes. -/
def idB (x : Int × Int) : List Nat := [(x.1 % 256).toNat, (x.2 / 65536 % 256).toNat, (x.2 / 256 % 256).toNat, (x.2 % 256).toNat]
theorem idB_lt (x : Int × Int) : ∀ b ∈ idB x, b < 256 := by
  intro b hb
  simp only [idB, List.mem_cons, List.not_mem_nil, or_false] at hb
  rcases hb with rfl | rfl | rfl | rfl <;> omega

/-- The next byte. -/
def c1 (L : List Nat) : Nat := L.headD 0
end Go.Proofs.Ytoiflngpjdghbaa

/- pack.room. -/
namespace Go.Proofs.Ytoiflngpjdghbaa
open Go.RowKit
set_option linter.unusedSimpArgs false
set_option linter.unusedVariables false

theorem rows_get (L : List Nat) (j : Nat) : (rowsV f8 L)[j]? = (L[j]?).map (fun b : Nat => Value.int .u8 (b : Int)) := by rw [rowsV_map8, List.getElem?_map]
theorem rows8_len (L : List Nat) : (rowsV f8 L).length = L.length := by rw [rowsV_map8, List.length_map]
theorem rows8_app (L M : List Nat) : rowsV f8 (L ++ M) = rowsV f8 L ++ rowsV f8 M := by rw [rowsV_map8, rowsV_map8, rowsV_map8, List.map_append]
theorem rows8_set (L : List Nat) (j b : Nat) : (rowsV f8 L).set j (.int .u8 (b : Int)) = rowsV f8 (L.set j b) := by rw [rowsV_map8, rowsV_map8, List.map_set]
theorem made_u8 (N : Nat) : madeCells (Value.int .u8 0).cells N = (rowsV f8 (List.replicate N 0)).toArray := by
  apply Array.ext'
  rw [rowsV_map8, List.map_replicate]
  show (madeCells #[Value.int .u8 0] N).toList = _
  refine List.ext_getElem? fun j => ?_
  rw [List.getElem?_replicate]
  by_cases h : j < N
  · rw [if_pos h, Array.getElem?_toList, Array.getElem?_eq_getElem (by rw [size_madeCells]; exact h)]
    simp [madeCells, Nat.mod_one]
  · rw [if_neg h, Array.getElem?_toList, Array.getElem?_eq_none (by rw [size_madeCells]; omega)]
theorem make_u8 (N : Nat) (hN : N ≤ 100000000) (W : World) : (Instr.makeSlice 22 (.int .i64 (N : Int)) (.int .i64 (N : Int))).run Try.prog W = .ok (.slice (some ⟨W.heap.size, 0, none⟩) N N) (W.alloc (.cells (rowsV f8 (List.replicate N 0)).toArray 5)) := by
  obtain ⟨i0, hi, hz0, hz1, hz2⟩ := info_parts_ info_u8
  have h := run_make (P := Try.prog) W 22 5 i0 _ Try.underlying22 hi hz0 .i64 .i64 (N : Int) (N : Int) (by omega) (by omega) (by rw [hz2]; omega) (by omega)
  rw [hz1] at h
  simp only [Int.toNat_natCast, Nat.mul_one] at h
  rw [h, made_u8]
theorem splice_0 (L : List Nat) (m : Nat) : splice (rowsV f8 (List.replicate (L.length + m) 0)) 0 (rowsV f8 L) = rowsV f8 (L ++ List.replicate m 0) := by
  unfold splice
  rw [List.take_zero, List.nil_append, rows8_app, rows8_len, Nat.zero_add, rowsV_map8 (List.replicate _ _), rowsV_map8 (List.replicate _ _), List.map_replicate, List.map_replicate, List.drop_replicate, Nat.add_sub_cancel_left]
/-- A block of bytes that the call made is a row of its own. -/
theorem gives8_whole {w w' : World} {g : Nat} {L : List Nat} {N : Nat} (hN : L.length = N) (hm : N ≤ 100000000) (hg : w.heap.size ≤ g) (hw : Whole w' g 5 (rowsV f8 L)) (hb : Below w.heap.size w w') : Gives8 w L (.returned (.slice (some ⟨g, 0, none⟩) N N)) w' := by
  subst hN
  refine ⟨some ⟨g, 0, none⟩, L.length, rfl, RdS.of_whole8 hw (by rw [rows8_len, Nat.mul_one]), fun a ha _ => ?_, ?_, hb⟩
  · obtain rfl := Option.some.inj ha
    exact hg
  · exact own_mk (junk := []) (by rw [List.append_nil]; exact hw) hg (by rw [List.append_nil, rows8_len, Nat.mul_one]) (Nat.le_refl _) (by unfold maxLen; omega) (by rw [rows8_len, Nat.mul_one])
theorem RdS.src {W : World} {B n c : Nat} {A : Option Addr} {X : List Value} (h : RdS W B 1 A n c X) (h0 : 0 < X.length) : ∃ ad, A = some ad ∧ ∀ j v, X[j]? = some v → W.cell? (ad.add j) = some v := by
  cases A with
  | none => obtain ⟨h1, -⟩ := h.none_ rfl; have := h.len; omega
  | some a => exact ⟨a, rfl, h.cell a rfl⟩
set_option maxRecDepth 100000 in
set_option maxHeartbeats 1000000 in
theorem room_any (A : Option Addr) (c : Nat) (L : List Nat) (m : Nat) (w : World) (h : RdS w w.heap.size 1 A L.length c (rowsV f8 L)) (hn : L.length ≤ 1000000) (hm : m ≤ 1000000) :
    Calls Try.prog 49 #[.slice A L.length c, .int .i64 (m : Int)] w fun e w' => ∃ g, e = .returned (.slice (some ⟨g, 0, none⟩) (L.length + m) (L.length + m)) ∧ w.heap.size ≤ g ∧ Whole w' g 5 (rowsV f8 (L ++ List.replicate m 0)) ∧ Below w.heap.size w w' := by
  have HR := Lib.hid h
  have HL := Lib.hid (rows8_len L)
  have HSp := Lib.hid (splice_0 L m)
  have hw : IntKind.i64.wrap ((L.length : Int) + (m : Int)) = ((L.length + m : Nat) : Int) := by rw [IntWalk.i64_in _ (by omega)]; omega
  have hmk := make_u8 (L.length + m) (by omega)
  have hone := Lib.hid (f8_all L)
  obtain ⟨X, gX⟩ : ∃ X, rowsV f8 L = X := ⟨_, rfl⟩
  obtain ⟨Z, gZ⟩ : ∃ Z, rowsV f8 (List.replicate (L.length + m) 0) = Z := ⟨_, rfl⟩
  have HZl : RowKit.Hid (Z.length = L.length + m) := Lib.hid (by rw [← gZ, rows8_len, List.length_replicate])
  rw [gX] at HR HL HSp hone
  rw [gZ] at HSp hmk
  obtain ⟨n, gn⟩ : ∃ n, L.length = n := ⟨_, rfl⟩
  rw [gn] at HR HL hw hmk hn HZl ⊢
  obtain ⟨N, gN⟩ : ∃ N, n + m = N := ⟨_, rfl⟩
  rw [gN] at hw hmk HZl ⊢
  have Hle : RowKit.Hid (n ≤ N) := Lib.hid (by omega)
  clear h gX gZ gn gN
  go_enter Try.func49, Try.ntmps49
  have HW1 : RowKit.Hid (Whole (w.alloc (.cells Z.toArray 5)) w.heap.size 5 Z) := Lib.hid (Whole.new_ _ _ _)
  have HR1 := Lib.hid (HR.out.al (.cells Z.toArray 5))
  have HB1 := Lib.hid (below1 w (.cells Z.toArray 5))
  go_upto_region 2 with fail
  refine wp_region_lit ?_
  refine wl_read (v := ?_) (some 11) rfl (by rfl) ?_ ?_
  rotate_left
  · go_simp; (try with_reducible rfl)
  simp only [Act.put, List.setIfInBounds_toArray, List.set_cons_zero, List.set_cons_succ]
  refine wl_read (v := ?_) (some 12) rfl (by rfl) ?_ ?_
  rotate_left
  · go_simp; (try with_reducible rfl)
  simp only [Act.put, List.setIfInBounds_toArray, List.set_cons_zero, List.set_cons_succ]
  refine wpList_copy_splice rfl (.tmp 11) (.tmp 12) 22 22 rfl 5 Try.underlying22 (by kernel_rfl) _ _ _ _ _ _ rfl rfl w.heap.size 0 Z 5 HW1.out X (by rw [HL.out]; exact (Nat.min_eq_left Hle.out).symm) (fun h0 => ⟨rfl, HR1.out.src h0⟩) (by have := HL.out; have := Hle.out; have := HZl.out; omega) hone.out w.heap.size w HB1.out (Nat.le_refl _) ?_
  intro w2 HG2 hB2
  go_wp2
  go_ret
  exact ⟨w.heap.size, rfl, Nat.le_refl _, HSp.out ▸ HG2.out, hB2⟩

end Go.Proofs.Ytoiflngpjdghbaa

/- pack.Num. -/
namespace Go.Proofs.Ytoiflngpjdghbaa
open Go.RowKit
set_option linter.unusedSimpArgs false
set_option linter.unusedVariables false

theorem beN_cons : ∀ (k u : Nat), beN (k + 1) u = (u / 256 ^ k % 256) :: beN k u
  | 0, u => by simp [beN]
  | k + 1, u => by
    rw [beN, beN_cons k (u / 256), List.cons_append, Nat.div_div_eq_div_mul, ← Nat.pow_succ']
    rfl
/-- What stands in the row when k of the eight bytes are laid. -/
def btm (L : List Nat) (U k : Nat) : List Nat := L ++ (List.replicate (8 - k) 0 ++ beN k U)
theorem btm_len (L : List Nat) (U k : Nat) (hk : k ≤ 8) : (btm L U k).length = L.length + 8 := by simp [btm, beN_len]; omega
theorem btm_set (L : List Nat) (U k : Nat) (hk : k < 8) : (btm L U k).set (L.length + (7 - k)) (U / 256 ^ k % 256) = btm L U (k + 1) := by
  unfold btm
  rw [beN_cons, List.set_append, if_neg (by omega), Nat.add_sub_cancel_left]
  congr 1
  have e1 : 8 - k = (8 - (k + 1)) + 1 := by omega
  have e2 : 7 - k = 8 - (k + 1) := by omega
  rw [e1, e2, List.replicate_succ', List.append_assoc, List.set_append, if_neg (by rw [List.length_replicate]; omega), List.length_replicate, Nat.sub_self]
  rfl
theorem wrap_u64_ (x : Int) : IntKind.u64.wrap x = (u64 x : Int) := by
  rw [IntKind.wrap_u64]
  unfold u64
  omega
set_option maxRecDepth 100000 in
set_option maxHeartbeats 1000000 in
theorem num_any (A : Option Addr) (c : Nat) (L : List Nat) (x : Int) (w : World) (h : RdS w w.heap.size 1 A L.length c (rowsV f8 L)) (hn : L.length ≤ 900000) :
    Calls Try.prog 37 #[.slice A L.length c, .int .i64 x] w (Gives8 w (L ++ be8 x)) := by
  have HC := Lib.hid (room_any A c L 8 w h (by omega) (by omega))
  have hx := wrap_u64_ x
  obtain ⟨U, gU⟩ : ∃ U, u64 x = U := ⟨_, rfl⟩
  have e0 : L ++ List.replicate 8 0 = btm L U 0 := by simp [btm, beN]
  have e8 : L ++ be8 x = btm L U 8 := by unfold be8; rw [gU]; simp [btm]
  rw [e0] at HC
  rw [e8]
  rw [gU] at hx
  have Hlen := Lib.hid (btm_len L U)
  have Hset := Lib.hid (btm_set L U)
  have HU : RowKit.Hid (U < 18446744073709551616) := Lib.hid (by rw [← gU]; exact u64_lt x)
  have Hl8 : RowKit.Hid ((btm L U 8).length = L.length + 8) := Lib.hid (btm_len L U 8 (by omega))
  clear h e0 e8 gU
  obtain ⟨F, gF⟩ : ∃ F, btm L U = F := ⟨_, rfl⟩
  rw [gF] at HC Hlen Hset Hl8 ⊢
  obtain ⟨n, gn⟩ : ∃ n, L.length = n := ⟨_, rfl⟩
  rw [gn] at HC Hlen Hset hn Hl8 ⊢
  obtain ⟨N, gN⟩ : ∃ N, n + 8 = N := ⟨_, rfl⟩
  rw [gN] at HC Hlen Hl8
  have HN := Lib.hid gN
  have hsub : IntKind.i64.wrap ((N : Int) - 1) = ((n + 7 : Nat) : Int) := by rw [IntWalk.i64_in _ (by omega)]; omega
  obtain ⟨n7, gn7⟩ : ∃ n7, n + 7 = n7 := ⟨_, rfl⟩
  rw [gn7] at hsub
  have H7 := Lib.hid gn7
  clear gF gn gN gn7
  go_enter Try.func37, Try.ntmps37
  go_wp2_with (first | (go_at_call 49; refine HC.out.mono ?_; rintro e w2 ⟨g, rfl, hg, hw, hb⟩; have HG := Lib.hid hg; have HW := Lib.hid hw; have HB := Lib.hid hb; clear hg hw hb))
  clear hsub hx
  go_loopw [6, 7] (fun u i wr => ∃ k : Nat, k ≤ 8 ∧ u = .int .u64 ((U / 256 ^ k : Nat) : Int) ∧ i = .int .i64 ((n7 : Int) - (k : Int)) ∧ RowKit.Hid (Whole wr g 5 (rowsV f8 (F k))) ∧ RowKit.Hid (Below w.heap.size w wr)) (fun _ i _ => (intOf i + 1).toNat)
  case atStart => exact ⟨0, by omega, by simp, by simp, HW, HB⟩
  case round =>
    clear HW HB
    obtain ⟨k, hk, rfl, rfl, HW, HB⟩ := hrel
    by_cases hlt : k < 8
    · obtain ⟨j, gj⟩ : ∃ j : Nat, (n7 : Int) - (k : Int) = (j : Int) := ⟨n7 - k, by have := H7.out; omega⟩
      have Hj : RowKit.Hid (j = n + (7 - k)) := Lib.hid (by have := H7.out; omega)
      rw [gj]
      have hs := Hset.out k hlt
      obtain ⟨q, gq⟩ : ∃ q, U / 256 ^ k = q := ⟨_, rfl⟩
      have hq1 : U / 256 ^ (k + 1) = q / 256 := by rw [← gq, Nat.div_div_eq_div_mul, ← Nat.pow_succ]
      have Hq1 := Lib.hid hq1
      have hqU : q ≤ U := by rw [← gq]; exact Nat.div_le_self _ _
      rw [gq] at hs
      have Hs := Lib.hid hs
      rw [gq]
      have hw8 : IntKind.u8.wrap (q : Int) = ((q % 256 : Nat) : Int) := by rw [IntKind.wrap_u8]; omega
      have d1 : decide ((n : Int) ≤ (j : Int)) = true := decide_eq_true (by have := Hj.out; omega)
      have d2 : decide (n ≤ j) = true := decide_eq_true (by have := Hj.out; omega)
      have hjl : j < (F k).length := by rw [Hlen.out k hk]; have := Hj.out; have := HN.out; omega
      obtain ⟨b0, hb0⟩ : ∃ b, (F k)[j]? = some b := ⟨_, List.getElem?_eq_getElem hjl⟩
      have hjN : j < N := by have := Hj.out; have := HN.out; omega
      have hcell := HW.out.cell (i := j) (v := .int .u8 (b0 : Int)) (by rw [rows_get, hb0]; rfl)
      have hfree := HW.out.free j
      have hsb : IntKind.i64.wrap ((j : Int) - 1) = (j : Int) - 1 := IntWalk.i64_in _ (by have := Hj.out; omega)
      have hq64 : IntKind.u64.wrap ((q / 256 : Nat) : Int) = ((q / 256 : Nat) : Int) := by rw [IntKind.wrap_u64]; have := HU.out; omega
      clear gq hs hq1 hb0 hjl
      go_wp2
      go_roundw
      case rel => exact ⟨k + 1, by omega, by rw [Hq1.out, Int.natCast_ediv]; rfl, by go_num, Lib.hid (by have := HW.out.set_ j (.int .u8 ((q % 256 : Nat) : Int)); rw [rows8_set, Hj.out, Hs.out] at this; rw [Hj.out]; exact this), Lib.hid (HB.out.setCell (p := ⟨g, j, none⟩) HG.out _)⟩
      case measure => first | (simp [intOf]; done) | (simp [intOf]; omega)
    · obtain rfl : k = 8 := by omega
      have d1 : decide ((n : Int) ≤ (n7 : Int) - 8) = false := decide_eq_false (by have := H7.out; omega)
      go_wp2
      go_ret
      exact gives8_whole Hl8.out (by have := HN.out; omega) HG.out HW.out HB.out

end Go.Proofs.Ytoiflngpjdghbaa

/- pack.Text. -/
namespace Go.Proofs.Ytoiflngpjdghbaa
open Go.RowKit
set_option linter.unusedSimpArgs false
set_option linter.unusedVariables false

theorem tB_data (s : ByteArray) : tB s = s.data.toList.map UInt8.toNat := by rw [tB, ByteArray.toList_eq]
theorem str_rows (s : ByteArray) : Lib.strCells s = rowsV f8 (tB s) := by
  rw [rowsV_map8, tB_data, Lib.strCells, List.map_map]
  rfl
theorem exec_copy {P : Program} {ev : Operand → Value} {o : Oper} {w w' : World} (d s : Operand) (dT sT : TypeId) (ho : o.op = .call { callee := .builtin .copy, args := #[d, s], argTypes := #[dT, sT] }) {x y v : Value} (hd : ev d = x) (hs : ev s = y)
    (hrun : (Builtin.copy_ #[dT, sT] o.type #[x, y]).run P w = .ok v w') : (execOp ev o).run P w = .ok (.value v) w' := by
  unfold execOp
  simp [ho, resolve, invoke, builtin, hd, hs, hrun, Result.andThen]
/-- A text copied to the end of a row. -/
theorem copy_str (ty : TypeId) {w : World} {g N p : Nat} {M : List Nat} {A : Option Addr} {c : Nat} (s : ByteArray) (hw : Whole w g 5 (rowsV f8 M)) (hM : M.length = N) (hp : p + s.size = N) (hA : (if N = p then some (⟨g, 0, none⟩ : Addr) else (some (⟨g, 0, none⟩ : Addr)).map (·.add (p * 1))) = A) {w0 : World} {B : Nat} (hb : Below B w0 w) (hB : B ≤ g) :
    ∃ w', (Builtin.copy_ #[22, 9] ty #[.slice A s.size c, .string s]).run Try.prog w = .ok (goInt s.size) w' ∧ Whole w' g 5 (rowsV f8 (M.take p ++ tB s)) ∧ Below B w0 w' := by
  obtain ⟨i0, hi, hz0, hz1, hz2⟩ := info_parts_ info_u8
  by_cases h0 : N = p
  · rw [if_pos h0] at hA
    obtain rfl := hA
    have hs : s.size = 0 := by omega
    have ht : tB s = [] := List.eq_nil_of_length_eq_zero (by rw [tB_len, hs])
    refine ⟨w, ?_, by rw [ht, List.append_nil, List.take_of_length_le (by omega)]; exact hw, hb⟩
    simp [Builtin.copy_, run_underlying (Try.underlying22), Builtin.lenOf, Builtin.firstCells, sizeOf, typeInfo, hi, hz1, hs, storeCells]
  · rw [if_neg h0] at hA
    have e : (some (⟨g, 0, none⟩ : Addr)).map (·.add (p * 1)) = some (⟨g, p, none⟩ : Addr) := by simp only [Option.map_some, Addr.add_lit, Nat.mul_one, Nat.zero_add]
    rw [e] at hA
    obtain rfl := hA
    have hst := run_storeCells_at Try.prog g p 5 (Lib.strCells s) 0 (rowsV f8 M).toArray w hw (by simp [rows8_len, Lib.strCells_length]; omega) (Lib.strCells_oneCell s)
    have hf := Lib.run_firstCells_string (P := Try.prog) w 1 s
    simp only [Nat.add_zero, Lib.strCells_length] at hst
    have hd : (rowsV f8 M).toArray.toList.drop (p + s.size) = [] := List.drop_eq_nil_of_le (by simp [rows8_len]; omega)
    rw [hd, List.append_nil, str_rows, show ((rowsV f8 M).toArray.toList.take p ++ rowsV f8 (tB s)).toArray = (rowsV f8 (M.take p ++ tB s)).toArray from by rw [rows8_app, rowsV_map8 M, rowsV_map8 (M.take p), List.map_take]] at hst
    refine ⟨_, ?_, Whole.row hw (rowsV f8 (M.take p ++ tB s)), below_setRow hb hB _⟩
    simp only [str_rows] at hf
    simp [Builtin.copy_, run_underlying (Try.underlying22), Builtin.lenOf, sizeOf, typeInfo, hi, hz1, hf, hst]
set_option maxRecDepth 100000 in
set_option maxHeartbeats 1000000 in
theorem text_any (A : Option Addr) (c : Nat) (L : List Nat) (s : ByteArray) (w : World) (h : RdS w w.heap.size 1 A L.length c (rowsV f8 L)) (hn : L.length ≤ 900000) (hs : s.size ≤ 900000) :
    Calls Try.prog 35 #[.slice A L.length c, .string s] w (Gives8 w (L ++ textB s)) := by
  obtain ⟨S, gS⟩ : ∃ S, s.size = S := ⟨_, rfl⟩
  have HC := Lib.hid (room_any A c L (1 + S) w h (by omega) (by omega))
  have hw1 : IntKind.i64.wrap (1 + (S : Int)) = ((1 + S : Nat) : Int) := by rw [IntWalk.i64_in _ (by omega)]; omega
  have hw8 : IntKind.u8.wrap (S : Int) = ((S % 256 : Nat) : Int) := by rw [IntKind.wrap_u8]; omega
  have HE : RowKit.Hid (((L ++ List.replicate (1 + S) 0).set L.length (S % 256)).take (L.length + 1) ++ tB s = L ++ textB s) := Lib.hid (by
    rw [List.set_append, if_neg (by omega), Nat.sub_self, Nat.add_comm 1 S, List.replicate_succ, List.set_cons_zero, textB, gS]
    rw [List.take_append, List.take_of_length_le (by omega), Nat.add_sub_cancel_left, List.take_succ_cons, List.take_zero, List.append_assoc])
  have Hl : RowKit.Hid ((L ++ textB s).length = L.length + (1 + S)) := Lib.hid (by simp [textB, tB_len, gS]; omega)
  have Hs : RowKit.Hid (s.size = S) := Lib.hid gS
  have hsz : (s.size : Int) = (S : Int) := by rw [gS]
  obtain ⟨E, gE⟩ : ∃ E, L ++ textB s = E := ⟨_, rfl⟩
  rw [gE] at HE Hl ⊢
  obtain ⟨M0, gM0⟩ : ∃ M0, L ++ List.replicate (1 + S) 0 = M0 := ⟨_, rfl⟩
  have HM0 : RowKit.Hid (M0.length = L.length + (1 + S)) := Lib.hid (by rw [← gM0]; simp)
  rw [gM0] at HC HE
  obtain ⟨n, gn⟩ : ∃ n, L.length = n := ⟨_, rfl⟩
  rw [gn] at HC HE Hl HM0 hn ⊢
  obtain ⟨m, gm⟩ : ∃ m, 1 + S = m := ⟨_, rfl⟩
  rw [gm] at HC Hl HM0 hw1
  have Hm := Lib.hid gm
  obtain ⟨N, gN⟩ : ∃ N, n + m = N := ⟨_, rfl⟩
  rw [gN] at HC Hl HM0
  have HN := Lib.hid gN
  have hw2 : IntKind.i64.wrap ((n : Int) + 1) = ((n + 1 : Nat) : Int) := by rw [IntWalk.i64_in _ (by omega)]; omega
  have hnN : n < N := by omega
  have hnN2 : (n : Int) < (N : Int) := by omega
  have hNb : N ≤ 100000000 := by omega
  obtain ⟨S8, gS8⟩ : ∃ z, S % 256 = z := ⟨_, rfl⟩
  rw [gS8] at HE hw8
  clear h gE gM0 gn gm gN gS hs gS8
  go_enter Try.func35, Try.ntmps35
  go_upto_region 2 with (first | (go_at_call 49; refine HC.out.mono ?_; rintro e w2 ⟨g, rfl, hg, hw, hb⟩; have HG := Lib.hid hg; have HW := Lib.hid hw; have HB := Lib.hid hb; clear hg hw hb))
  clear hw1
  obtain ⟨b0, hb0⟩ : ∃ b, M0[n]? = some b := ⟨_, List.getElem?_eq_getElem (by rw [HM0.out]; exact hnN)⟩
  have hcell := HW.out.cell (i := n) (v := .int .u8 (b0 : Int)) (by rw [rows_get, hb0]; rfl)
  have hfree := HW.out.free n
  clear hb0
  go_upto_region 3 with fail
  have HW2 : RowKit.Hid (Whole (w2.setCell ⟨g, n, none⟩ (.int .u8 (S8 : Int))) g 5 (rowsV f8 (M0.set n S8))) := Lib.hid (by have := HW.out.set_ n (.int .u8 (S8 : Int)); rwa [rows8_set] at this)
  have HB2 := Lib.hid (HB.out.setCell (p := ⟨g, n, none⟩) HG.out (.int .u8 (S8 : Int)))
  obtain ⟨w3, gw3⟩ : ∃ z, w2.setCell ⟨g, n, none⟩ (.int .u8 (S8 : Int)) = z := ⟨_, rfl⟩
  rw [gw3] at HW2 HB2 ⊢
  clear gw3 HW HB hcell hfree
  obtain ⟨A1, hA1⟩ : ∃ A1, (if N = n + 1 then some (⟨g, 0, none⟩ : Addr) else (some (⟨g, 0, none⟩ : Addr)).map (·.add ((n + 1) * 1))) = A1 := ⟨_, rfl⟩
  have hNS : n + 1 + s.size = N := by have := Hm.out; have := HN.out; have := Hs.out; omega
  have hNS2 : N - (n + 1) = s.size := by omega
  obtain ⟨w4, hrun, hw4, hb4⟩ := copy_str (c := N - (n + 1)) 3 s HW2.out (by rw [List.length_set]; exact HM0.out) hNS hA1 HB2.out HG.out
  have HW4 := Lib.hid hw4
  have HB4 := Lib.hid hb4
  rw [HE.out] at HW4
  refine wp_region_lit ?_
  refine wl_read (v := ?_) (some 18) rfl (by rfl) ?_ ?_
  rotate_left
  · go_simp; (try with_reducible rfl)
  simp only [Act.put, List.setIfInBounds_toArray, List.set_cons_zero, List.set_cons_succ]
  refine wl_read (v := ?_) (some 19) rfl (by rfl) ?_ ?_
  rotate_left
  · go_simp; (try with_reducible rfl)
  simp only [Act.put, List.setIfInBounds_toArray, List.set_cons_zero, List.set_cons_succ]
  refine wl_read (v := ?_) (some 20) rfl (by rfl) ?_ ?_
  rotate_left
  · go_simp; (try with_reducible rfl)
  simp only [Act.put, List.setIfInBounds_toArray, List.set_cons_zero, List.set_cons_succ]
  refine wl_read (v := ?_) (some 21) rfl (by rfl) ?_ ?_
  rotate_left
  · go_simp; (try with_reducible rfl)
  simp only [Act.put, List.setIfInBounds_toArray, List.set_cons_zero, List.set_cons_succ]
  refine wl_run (some 22) rfl (by rfl) (exec_slice_low_as 22 5 (.tmp 18) (.tmp 21) rfl Try.underlying22 (s := 1) (by kernel_rfl) rfl (by rfl) (by omega) hA1 hNS2 rfl) ?_
  simp only [Act.put, List.setIfInBounds_toArray, List.set_cons_zero, List.set_cons_succ]
  refine wl_read (v := ?_) (some 23) rfl (by rfl) ?_ ?_
  rotate_left
  · go_simp; (try with_reducible rfl)
  simp only [Act.put, List.setIfInBounds_toArray, List.set_cons_zero, List.set_cons_succ]
  refine wl_run (some 24) rfl (by rfl) (exec_copy (.tmp 22) (.tmp 23) 22 9 rfl rfl rfl hrun) ?_
  clear hrun hw4 hb4
  go_wp2
  go_ret
  exact gives8_whole Hl.out hNb HG.out HW4.out HB4.out

end Go.Proofs.Ytoiflngpjdghbaa

/- pack.number, TakeNum. -/
namespace Go.Proofs.Ytoiflngpjdghbaa
open Go.RowKit
set_option linter.unusedSimpArgs false
set_option linter.unusedVariables false

theorem ofInt_64 (a : Nat) (ha : a < 18446744073709551616) : (BitVec.ofInt 64 (a : Int)).toNat = a := by
  rw [BitVec.ofInt_natCast, BitVec.toNat_ofNat]; exact Nat.mod_eq_of_lt (by omega)
theorem u64_or_byte (x b : Nat) (hx : x < 72057594037927936) (hb : b < 256) : bits .or .u64 ((x : Int) * 256) (b : Int) = ((x * 256 + b : Nat) : Int) := by
  have e : ((x : Int) * 256) = ((2 ^ 8 * x : Nat) : Int) := by omega
  rw [e]
  show IntKind.u64.wrap ((BitVec.ofInt 64 ((2 ^ 8 * x : Nat) : Int) ||| BitVec.ofInt 64 (b : Int)).toNat : Int) = _
  rw [BitVec.toNat_or, ofInt_64 _ (by omega), ofInt_64 b (by omega), ← Nat.two_pow_add_eq_or_of_lt (by omega) x, IntKind.wrap_u64]
  omega
/-- The byte at a place. -/
theorem byte_at {W : World} {B n c : Nat} {A : Option Addr} {L : List Nat} (h : RdS W B 1 A n c (rowsV f8 L)) (hn : 0 < n) : ∃ bb off, A = some ⟨bb, off, none⟩ ∧ bb < B ∧ ∀ (j b : Nat), L[j]? = some b → W.cell? ⟨bb, off + j, none⟩ = some (.int .u8 (b : Int)) := by
  obtain ⟨bb, off, rfl, hb, hp⟩ := h.place f8_len (by decide) hn
  refine ⟨bb, off, rfl, hb, fun j b hj => ?_⟩
  have := hp j b hj 0 _ rfl
  rw [Addr.add_lit] at this
  simpa using this
set_option maxRecDepth 100000 in
set_option maxHeartbeats 1000000 in
theorem number_any (A : Option Addr) (n c : Nat) (L : List Nat) (w : World) (h : RdS w w.heap.size 1 A n c (rowsV f8 L)) (hn : 8 ≤ n) (hb : ∀ b ∈ L, b < 256) :
    Calls Try.prog 70 #[.slice A n c] w fun e w' => e = .returned (.int .i64 (num8 (L.take 8))) ∧ w = w' := by
  obtain ⟨bb, off, rfl, -, hp⟩ := byte_at h (by omega)
  have hl := h.rlen f8_len (by decide)
  have hc := h.le
  have Hp := Lib.hid hp
  have Hb := Lib.hid hb
  have Hlt := Lib.hid (fun k hk => deN_lt hb k hk)
  unfold num8
  obtain ⟨x, gx⟩ : ∃ x, IntKind.i64.wrap ((deN (L.take 8) : Nat) : Int) = x := ⟨_, rfl⟩
  rw [gx]
  have Gx := Lib.hid gx
  clear h hp hb gx
  go_enter Try.func70, Try.ntmps70
  go_wp2
  go_loop [3, 9] (fun u i => ∃ k : Nat, k ≤ 8 ∧ u = .int .u64 ((deN (L.take k) : Nat) : Int) ∧ i = .int .i64 (k : Int)) (fun _ i => 8 - (intOf i).toNat)
  case atStart => exact ⟨0, by omega, by simp [deN], by simp⟩
  case round =>
    obtain ⟨k, hk, rfl, rfl⟩ := hrel
    by_cases hlt : k < 8
    · obtain ⟨b, hbk⟩ : ∃ b, L[k]? = some b := ⟨_, List.getElem?_eq_getElem (by omega)⟩
      have l0 := Hp.out k b hbk
      have hb6 : b < 256 := Hb.out b (List.mem_of_getElem? hbk)
      have hd : deN (L.take (k + 1)) = deN (L.take k) * 256 + b := by rw [take_snoc_ L k b hbk, deN_snoc]
      have hdl : deN (L.take k) < 72057594037927936 := by
        have h1 := Hlt.out k (by omega)
        have h2 : 256 ^ k ≤ 256 ^ 7 := Nat.pow_le_pow_right (by omega) (by omega)
        omega
      obtain ⟨X, gX⟩ : ∃ X, deN (L.take k) = X := ⟨_, rfl⟩
      rw [gX] at hd hdl ⊢
      have Hd := Lib.hid hd
      have ho := u64_or_byte X b hdl hb6
      have hw1 : IntKind.u64.wrap ((X : Int) * 256) = (X : Int) * 256 := by rw [IntKind.wrap_u64]; omega
      have hw2 : IntKind.u64.wrap (b : Int) = (b : Int) := by rw [IntKind.wrap_u64]; omega
      have hk8 : (k : Int) < 8 := by omega
      clear gX hd hbk
      go_wp2
      refine ⟨⟨k + 1, by omega, ?_, by go_num⟩, by simp [intOf]; omega⟩
      rw [Hd.out]
      exact congrArg (Value.int .u64) (by omega)
    · obtain rfl : k = 8 := by omega
      have hwx := Gx.out
      obtain ⟨X, gX⟩ : ∃ X, deN (L.take 8) = X := ⟨_, rfl⟩
      rw [gX] at hwx ⊢
      clear gX
      go_wp2
      go_ret
      exact ⟨rfl, rfl⟩

end Go.Proofs.Ytoiflngpjdghbaa

/- pack.TakeNum. -/
namespace Go.Proofs.Ytoiflngpjdghbaa
open Go.RowKit
set_option linter.unusedSimpArgs false
set_option linter.unusedVariables false

/-- What TakeNum tells. -/
def GivesTN (w : World) (L : List Nat) (e : Ending) (w' : World) : Prop :=
  ∃ A n c, e = .returned (.tuple #[.int .i64 (if 8 ≤ L.length then num8 (L.take 8) else 0), .slice A n c, .bool (decide (8 ≤ L.length))]) ∧ n = (if 8 ≤ L.length then L.drop 8 else L).length ∧ w'.ownsRow w.heap.size 5 1 (.slice A n c) n (rowsV f8 (if 8 ≤ L.length then L.drop 8 else L)) ∧ Below w.heap.size w w'
set_option maxRecDepth 100000 in
set_option maxHeartbeats 1000000 in
theorem takenum_any (A : Option Addr) (c : Nat) (L : List Nat) (w : World) (h : RdS w w.heap.size 1 A L.length c (rowsV f8 L)) (hn : L.length ≤ 100000) (hb : ∀ b ∈ L, b < 256) :
    Calls Try.prog 60 #[.slice A L.length c] w (GivesTN w L) := by
  unfold GivesTN
  by_cases h8 : 8 ≤ L.length
  · rw [if_pos h8, if_pos h8, decide_eq_true h8]
    have HN := Lib.hid (fun W (hW : Ext w W) => number_any A L.length c L W (h.up hW hW.size) h8 hb)
    have hlow := h.low_ (k := 8) h8
    have hdl : (L.drop 8).length = L.length - 8 := List.length_drop
    rw [show (rowsV f8 L).drop (8 * 1) = rowsV f8 (L.drop 8) from by rw [rowsV_map8, rowsV_map8, List.map_drop], ← hdl] at hlow
    obtain ⟨A1, hA1⟩ : ∃ A1, (if c = 8 then A else A.map (·.add (8 * 1))) = A1 := ⟨_, rfl⟩
    rw [hA1] at hlow
    have HC := Lib.hid (fun W (hW : Ext w W) => clone8 A1 (c - 8) (L.drop 8) W (hlow.up hW hW.size) (by rw [hdl]; omega))
    obtain ⟨M, gM⟩ : ∃ M, L.drop 8 = M := ⟨_, rfl⟩
    rw [gM] at HC hdl ⊢
    obtain ⟨x, gx⟩ : ∃ x, num8 (L.take 8) = x := ⟨_, rfl⟩
    rw [gx] at HN ⊢
    obtain ⟨n, gn⟩ : ∃ n, L.length = n := ⟨_, rfl⟩
    rw [gn] at HN hdl h8 hn ⊢
    obtain ⟨m, gm⟩ : ∃ m, M.length = m := ⟨_, rfl⟩
    have Gm := Lib.hid gm
    rw [gm] at HC hdl ⊢
    have hd1 : decide ((n : Int) < 8) = false := decide_eq_false (by omega)
    have hd2 : decide (n < 8) = false := decide_eq_false (by omega)
    have HAr := Lib.hid hA1
    have Hml := Lib.hid hdl.symm
    have H8 := Lib.hid h8
    clear h hb hlow gM gx gn gm hA1 hdl
    go_enter Try.func60, Try.ntmps60
    go_upto_region 3 with fail
    have HD : RowKit.Hid (Ext w w.drew) := Lib.hid (below_drewN w.heap.size w 1)
    refine wp_region_reg (Nil_) (by kernel_rfl) ?_
    apply wpR_next 0 (some 10)
    · simp only [List.getElem?_toArray, List.getElem?_cons_succ, List.getElem?_cons_zero]; exact rfl
    · rfl
    · kernel_rfl
    · kernel_rfl
    · kernel_rfl
    · exact fun _ _ _ _ h => h
    apply Exists.intro
    apply And.intro
    · apply yr_run; rfl; intro w' hw'; go_simp; (try with_reducible rfl)
    simp only [Act.put, List.setIfInBounds_toArray, List.set_cons_zero, List.set_cons_succ]
    apply wpR_next 2 (some 12)
    · simp only [List.getElem?_toArray, List.getElem?_cons_succ, List.getElem?_cons_zero]; exact rfl
    · rfl
    · kernel_rfl
    · kernel_rfl
    · kernel_rfl
    · exact fun _ _ _ _ h => h
    apply Exists.intro
    apply And.intro
    · apply yr_run; rfl; intro w' hw'; go_simp; (try with_reducible rfl)
    simp only [Act.put, List.setIfInBounds_toArray, List.set_cons_zero, List.set_cons_succ]
    apply wpR_next 3 (some 13)
    · simp only [List.getElem?_toArray, List.getElem?_cons_succ, List.getElem?_cons_zero]; exact rfl
    · rfl
    · kernel_rfl
    · kernel_rfl
    · kernel_rfl
    · exact fun _ _ _ _ h => h
    apply Exists.intro
    apply And.intro
    · apply yr_run; rfl; intro w' hw'; exact exec_slice_low_as 22 5 (.tmp 12) (.const (.int .i64 8)) rfl Try.underlying22 (s := 1) (by kernel_rfl) rfl rfl H8.out HAr.out Hml.out rfl
    simp only [Act.put, List.setIfInBounds_toArray, List.set_cons_zero, List.set_cons_succ]
    apply wpR_call 1 (some 11)
    · simp only [List.getElem?_toArray, List.getElem?_cons_succ, List.getElem?_cons_zero]; exact rfl
    · rfl
    · kernel_rfl
    · rfl
    · intro w'; go_simp; first | done | exact ⟨rfl, rfl⟩ | with_reducible rfl
    intro w' hw'
    refine (HN.out w' (HD.out.trans hw')).mono ?_
    rintro e w1 ⟨rfl, rfl⟩
    refine ⟨_, rfl, Kept.refl _ _, ?_⟩
    have H1 := Lib.hid (HD.out.trans hw')
    clear hw' 
    simp only [Act.put, List.setIfInBounds_toArray, List.set_cons_zero, List.set_cons_succ]
    apply wpR_call 4 (some 14)
    · simp only [List.getElem?_toArray, List.getElem?_cons_succ, List.getElem?_cons_zero]; exact rfl
    · rfl
    · kernel_rfl
    · rfl
    · intro w'; go_simp; first | done | exact ⟨rfl, rfl⟩ | with_reducible rfl
    intro w' hw'
    refine (HC.out w' (H1.out.trans hw')).mono ?_
    rintro e w3 ⟨A2, c2, rfl, -, -, ho, hb⟩
    have HO := Lib.hid (own_lo8 ho (H1.out.trans hw').size)
    have HB := Lib.hid ((H1.out.trans hw').trans hb)
    refine ⟨_, rfl, Kept.of_below hb, ?_⟩
    rw [Gm.out] at HO ⊢
    clear hw' ho hb
    simp only [Act.put, List.setIfInBounds_toArray, List.set_cons_zero, List.set_cons_succ]
    apply wpR_next 5 (some 2)
    · simp only [List.getElem?_toArray, List.getElem?_cons_succ, List.getElem?_cons_zero]; exact rfl
    · rfl
    · kernel_rfl
    · kernel_rfl
    · kernel_rfl
    · exact fun _ _ _ _ h => h
    apply Exists.intro
    apply And.intro
    · apply yr_run; rfl; intro w' hw'; go_simp; (try with_reducible rfl)
    simp only [Act.put, List.setIfInBounds_toArray, List.set_cons_zero, List.set_cons_succ]
    apply wpR_next 6 (some 3)
    · simp only [List.getElem?_toArray, List.getElem?_cons_succ, List.getElem?_cons_zero]; exact rfl
    · rfl
    · kernel_rfl
    · kernel_rfl
    · kernel_rfl
    · exact fun _ _ _ _ h => h
    apply Exists.intro
    apply And.intro
    · apply yr_run; rfl; intro w' hw'; go_simp; (try with_reducible rfl)
    simp only [Act.put, List.setIfInBounds_toArray, List.set_cons_zero, List.set_cons_succ]
    apply wpR_next 7 (some 4)
    · simp only [List.getElem?_toArray, List.getElem?_cons_succ, List.getElem?_cons_zero]; exact rfl
    · rfl
    · kernel_rfl
    · kernel_rfl
    · kernel_rfl
    · exact fun _ _ _ _ h => h
    apply Exists.intro
    apply And.intro
    · apply yr_run; rfl; intro w' hw'; go_simp; (try with_reducible rfl)
    simp only [Act.put, List.setIfInBounds_toArray, List.set_cons_zero, List.set_cons_succ]
    refine wpR_done (by kernel_rfl) ?_ _
    intro w9 hw9
    have HO9 := Lib.hid (own_up HO.out hw9)
    have HB9 := Lib.hid (HB.out.trans hw9)
    clear hw9 HO HB
    go_wp2
    refine bodyPost_ret (v := .tuple #[.int .i64 x, .slice A2 m c2, .bool true]) (by simp [results, Try.results60, go_sem]) rfl ?_
    exact ⟨A2, m, c2, rfl, rfl, HO9.out, HB9.out⟩
  · rw [if_neg h8, if_neg h8, decide_eq_false h8]
    have HC := Lib.hid (clone8 A c L w h hn)
    obtain ⟨n, gn⟩ : ∃ n, L.length = n := ⟨_, rfl⟩
    have Gn := Lib.hid gn
    rw [gn] at h8 HC ⊢
    have hd1 : decide ((n : Int) < 8) = true := decide_eq_true (by omega)
    have hd2 : decide (n < 8) = true := decide_eq_true (by omega)
    clear h gn hb hn
    go_enter Try.func60, Try.ntmps60
    go_wp2_with (first | (go_at_call 19; refine HC.out.mono ?_; rintro e w2 ⟨A2, c2, rfl, -, -, ho, hb⟩; have HO := Lib.hid ho; have HB := Lib.hid hb; clear ho hb))
    refine bodyPost_ret (v := .tuple #[.int .i64 0, .slice A2 n c2, .bool false]) (by simp [results, Try.results60, go_sem, Gn.out]) rfl ?_
    have ho := HO.out
    rw [Gn.out] at ho
    exact ⟨A2, n, c2, rfl, rfl, ho, HB.out⟩

end Go.Proofs.Ytoiflngpjdghbaa

/- pack.TakeText. -/
namespace Go.Proofs.Ytoiflngpjdghbaa
open Go.RowKit
set_option linter.unusedSimpArgs false
set_option linter.unusedVariables false

theorem Kept.ext_nil {w w' : World} (h : Kept Nil_ w w') : Ext w w' := ⟨h.os, h.tape, h.output, h.size, fun i hi => h.block i hi (fun e => e)⟩
/-- Whether bytes begin with a text. -/
def isT (L : List Nat) : Bool := decide (1 ≤ L.length ∧ 1 + c1 L ≤ L.length)
def txT (L : List Nat) : ByteArray := if isT L = true then txt ((L.drop 1).take (c1 L)) else { data := #[] }
def leT (L : List Nat) : List Nat := if isT L = true then L.drop (1 + c1 L) else L
/-- What TakeText tells. -/
def GivesTT (w : World) (L : List Nat) (e : Ending) (w' : World) : Prop :=
  ∃ A n c, e = .returned (.tuple #[.string (txT L), .slice A n c, .bool (isT L)]) ∧ n = (leT L).length ∧ w'.ownsRow w.heap.size 5 1 (.slice A n c) n (rowsV f8 (leT L)) ∧ Below w.heap.size w w'
set_option maxRecDepth 100000 in
set_option maxHeartbeats 1000000 in
theorem taketext_any (A : Option Addr) (c : Nat) (L : List Nat) (w : World) (h : RdS w w.heap.size 1 A L.length c (rowsV f8 L)) (hn : L.length ≤ 100000) (hb : ∀ b ∈ L, b < 256) :
    Calls Try.prog 69 #[.slice A L.length c] w (GivesTT w L) := by
  unfold GivesTT
  by_cases hT : isT L = true
  · obtain ⟨h1, h2⟩ := of_decide_eq_true hT
    obtain ⟨b, hb0⟩ : ∃ b, L[0]? = some b := ⟨_, List.getElem?_eq_getElem (by omega)⟩
    have hc1 : c1 L = b := by unfold c1; cases L with | nil => cases hb0 | cons x L => simpa using hb0
    have hb6 : b < 256 := hb b (List.mem_of_getElem? hb0)
    unfold txT leT
    rw [if_pos hT, if_pos hT, hT]
    rw [hc1] at h2 ⊢
    have hlow := h.low_ (k := 1 + b) h2
    have hdl : (L.drop (1 + b)).length = L.length - (1 + b) := List.length_drop
    rw [show (rowsV f8 L).drop ((1 + b) * 1) = rowsV f8 (L.drop (1 + b)) from by rw [rowsV_map8, rowsV_map8, List.map_drop, Nat.mul_one], ← hdl] at hlow
    obtain ⟨A1, hA1⟩ : ∃ A1, (if c = 1 + b then A else A.map (·.add ((1 + b) * 1))) = A1 := ⟨_, rfl⟩
    rw [hA1] at hlow
    have HC := Lib.hid (fun W (hW : Ext w W) => clone8 A1 (c - (1 + b)) (L.drop (1 + b)) W (hlow.up hW hW.size) (by rw [hdl]; omega))
    -- the text
    have hmid := h.low_ (k := 1) h1
    rw [show (rowsV f8 L).drop (1 * 1) = rowsV f8 (L.drop 1) from by rw [rowsV_map8, rowsV_map8, List.map_drop]] at hmid
    obtain ⟨A3, hA3⟩ : ∃ A3, (if c = 1 then A else A.map (·.add (1 * 1))) = A3 := ⟨_, rfl⟩
    rw [hA3] at hmid
    have htk := hmid.take_ b (by omega)
    rw [show (rowsV f8 (L.drop 1)).take (b * 1) = rowsV f8 ((L.drop 1).take b) from by rw [rowsV_map8, rowsV_map8, List.map_take, Nat.mul_one]] at htk
    have HV := Lib.hid (fun W (hW : Ext w W) => conv_txt (htk.up hW hW.size))
    obtain ⟨s, gs⟩ : ∃ s, txt ((L.drop 1).take b) = s := ⟨_, rfl⟩
    rw [gs] at HV ⊢
    obtain ⟨M, gM⟩ : ∃ M, L.drop (1 + b) = M := ⟨_, rfl⟩
    rw [gM] at HC hdl ⊢
    obtain ⟨bb, off, rfl, -, hp⟩ := byte_at h (by omega)
    have l0 := hp 0 b hb0
    rw [Nat.add_zero] at l0
    obtain ⟨n, gn⟩ : ∃ n, L.length = n := ⟨_, rfl⟩
    have hle := h.le
    rw [gn] at hdl h1 h2 hn hle ⊢
    obtain ⟨m, gm⟩ : ∃ m, M.length = m := ⟨_, rfl⟩
    have Gm := Lib.hid gm
    rw [gm] at HC hdl ⊢
    have hw1 : IntKind.i64.wrap (1 + (b : Int)) = ((1 + b : Nat) : Int) := by rw [IntWalk.i64_in _ (by omega)]; omega
    have hw2 : IntKind.i64.wrap (b : Int) = (b : Int) := IntWalk.i64_in _ (by omega)
    obtain ⟨e, ge⟩ : ∃ e, 1 + b = e := ⟨_, rfl⟩
    rw [ge] at hw1 hA1 hdl HC h2
    have heb : RowKit.Hid (e - 1 = b) := Lib.hid (by omega)
    have He1 : RowKit.Hid (1 ≤ e ∧ e ≤ c ∧ e ≤ n) := Lib.hid (by omega)
    have d1 : decide (n ≤ b) = false := decide_eq_false (by omega)
    have d2 : decide ((n : Int) ≤ (b : Int)) = false := decide_eq_false (by omega)
    have d3 : ((n : Int) == 0) = false := beq_eq_false_iff_ne.2 (by omega)
    have d4 : (n == 0) = false := beq_eq_false_iff_ne.2 (by omega)
    have d5 : (0 : Int) < (n : Int) := by omega
    have HAr := Lib.hid hA1
    have HAs := Lib.hid hA3
    have Hml := Lib.hid hdl.symm
    clear h hb hlow hmid htk gs gM gn gm ge hA1 hA3 hdl hb0 hc1 hp hT hle
    go_enter Try.func69, Try.ntmps69
    go_upto_region 4 with fail
    have HD : RowKit.Hid (Ext w w.drew) := Lib.hid (below_drewN w.heap.size w 1)
    refine wp_region_reg (Nil_) (by kernel_rfl) ?_
    apply wpR_next 0 (some 25)
    · simp only [List.getElem?_toArray, List.getElem?_cons_succ, List.getElem?_cons_zero]; exact rfl
    · rfl
    · kernel_rfl
    · kernel_rfl
    · kernel_rfl
    · exact fun _ _ _ _ h => h
    apply Exists.intro
    apply And.intro
    · apply yr_run; rfl; intro w' hw'; go_simp; (try with_reducible rfl)
    simp only [Act.put, List.setIfInBounds_toArray, List.set_cons_zero, List.set_cons_succ]
    apply wpR_next 1 (some 26)
    · simp only [List.getElem?_toArray, List.getElem?_cons_succ, List.getElem?_cons_zero]; exact rfl
    · rfl
    · kernel_rfl
    · kernel_rfl
    · kernel_rfl
    · exact fun _ _ _ _ h => h
    apply Exists.intro
    apply And.intro
    · apply yr_run; rfl; intro w' hw'; go_simp; (try with_reducible rfl)
    simp only [Act.put, List.setIfInBounds_toArray, List.set_cons_zero, List.set_cons_succ]
    apply wpR_next 2 (some 27)
    · simp only [List.getElem?_toArray, List.getElem?_cons_succ, List.getElem?_cons_zero]; exact rfl
    · rfl
    · kernel_rfl
    · kernel_rfl
    · kernel_rfl
    · exact fun _ _ _ _ h => h
    apply Exists.intro
    apply And.intro
    · apply yr_run; rfl; intro w' hw'; exact exec_slice_as 22 5 (.tmp 25) (.const (.int .i64 1)) (.tmp 26) rfl Try.underlying22 (s := 1) (by kernel_rfl) rfl rfl rfl He1.out.1 He1.out.2.1 HAs.out heb.out rfl
    simp only [Act.put, List.setIfInBounds_toArray, List.set_cons_zero, List.set_cons_succ]
    apply wpR_next 3 (some 28)
    · simp only [List.getElem?_toArray, List.getElem?_cons_succ, List.getElem?_cons_zero]; exact rfl
    · rfl
    · kernel_rfl
    · kernel_rfl
    · kernel_rfl
    · exact fun _ _ _ _ h => h
    apply Exists.intro
    apply And.intro
    · apply yr_run; rfl; intro w' hw'; exact exec_convert 22 9 (.tmp 27) rfl rfl (HV.out w' (HD.out.trans hw'.ext_nil))
    simp only [Act.put, List.setIfInBounds_toArray, List.set_cons_zero, List.set_cons_succ]
    apply wpR_next 4 (some 29)
    · simp only [List.getElem?_toArray, List.getElem?_cons_succ, List.getElem?_cons_zero]; exact rfl
    · rfl
    · kernel_rfl
    · kernel_rfl
    · kernel_rfl
    · exact fun _ _ _ _ h => h
    apply Exists.intro
    apply And.intro
    · apply yr_run; rfl; intro w' hw'; go_simp; (try with_reducible rfl)
    simp only [Act.put, List.setIfInBounds_toArray, List.set_cons_zero, List.set_cons_succ]
    apply wpR_next 5 (some 30)
    · simp only [List.getElem?_toArray, List.getElem?_cons_succ, List.getElem?_cons_zero]; exact rfl
    · rfl
    · kernel_rfl
    · kernel_rfl
    · kernel_rfl
    · exact fun _ _ _ _ h => h
    apply Exists.intro
    apply And.intro
    · apply yr_run; rfl; intro w' hw'; go_simp; (try with_reducible rfl)
    simp only [Act.put, List.setIfInBounds_toArray, List.set_cons_zero, List.set_cons_succ]
    apply wpR_next 6 (some 31)
    · simp only [List.getElem?_toArray, List.getElem?_cons_succ, List.getElem?_cons_zero]; exact rfl
    · rfl
    · kernel_rfl
    · kernel_rfl
    · kernel_rfl
    · exact fun _ _ _ _ h => h
    apply Exists.intro
    apply And.intro
    · apply yr_run; rfl; intro w' hw'; exact exec_slice_low_as 22 5 (.tmp 29) (.tmp 30) rfl Try.underlying22 (s := 1) (by kernel_rfl) rfl rfl He1.out.2.2 HAr.out Hml.out rfl
    simp only [Act.put, List.setIfInBounds_toArray, List.set_cons_zero, List.set_cons_succ]
    apply wpR_call 7 (some 32)
    · simp only [List.getElem?_toArray, List.getElem?_cons_succ, List.getElem?_cons_zero]; exact rfl
    · rfl
    · kernel_rfl
    · rfl
    · intro w'; go_simp; first | done | exact ⟨rfl, rfl⟩ | with_reducible rfl
    intro w' hw'
    refine (HC.out w' (HD.out.trans hw')).mono ?_
    rintro e w3 ⟨A2, c2, rfl, -, -, ho, hb⟩
    have HO := Lib.hid (own_lo8 ho (HD.out.trans hw').size)
    have HB := Lib.hid ((HD.out.trans hw').trans hb)
    refine ⟨_, rfl, Kept.of_below hb, ?_⟩
    rw [Gm.out] at HO ⊢
    clear hw' ho hb
    simp only [Act.put, List.setIfInBounds_toArray, List.set_cons_zero, List.set_cons_succ]
    apply wpR_next 8 (some 2)
    · simp only [List.getElem?_toArray, List.getElem?_cons_succ, List.getElem?_cons_zero]; exact rfl
    · rfl
    · kernel_rfl
    · kernel_rfl
    · kernel_rfl
    · exact fun _ _ _ _ h => h
    apply Exists.intro
    apply And.intro
    · apply yr_run; rfl; intro w' hw'; go_simp; (try with_reducible rfl)
    simp only [Act.put, List.setIfInBounds_toArray, List.set_cons_zero, List.set_cons_succ]
    apply wpR_next 9 (some 3)
    · simp only [List.getElem?_toArray, List.getElem?_cons_succ, List.getElem?_cons_zero]; exact rfl
    · rfl
    · kernel_rfl
    · kernel_rfl
    · kernel_rfl
    · exact fun _ _ _ _ h => h
    apply Exists.intro
    apply And.intro
    · apply yr_run; rfl; intro w' hw'; go_simp; (try with_reducible rfl)
    simp only [Act.put, List.setIfInBounds_toArray, List.set_cons_zero, List.set_cons_succ]
    apply wpR_next 10 (some 4)
    · simp only [List.getElem?_toArray, List.getElem?_cons_succ, List.getElem?_cons_zero]; exact rfl
    · rfl
    · kernel_rfl
    · kernel_rfl
    · kernel_rfl
    · exact fun _ _ _ _ h => h
    apply Exists.intro
    apply And.intro
    · apply yr_run; rfl; intro w' hw'; go_simp; (try with_reducible rfl)
    simp only [Act.put, List.setIfInBounds_toArray, List.set_cons_zero, List.set_cons_succ]
    refine wpR_done (by kernel_rfl) ?_ _
    intro w9 hw9
    have HO9 := Lib.hid (own_up HO.out hw9)
    have HB9 := Lib.hid (HB.out.trans hw9)
    clear hw9 HO HB
    go_wp2
    refine bodyPost_ret (v := .tuple #[.string s, .slice A2 m c2, .bool true]) (by simp [results, Try.results69, go_sem]) rfl ?_
    exact ⟨A2, m, c2, rfl, rfl, HO9.out, HB9.out⟩
  · have hf : isT L = false := by simpa using hT
    unfold txT leT
    rw [if_neg hT, if_neg hT, hf]
    have HC := Lib.hid (clone8 A c L w h hn)
    by_cases h1 : 1 ≤ L.length
    · obtain ⟨b, hb0⟩ : ∃ b, L[0]? = some b := ⟨_, List.getElem?_eq_getElem (by omega)⟩
      have hc1 : c1 L = b := by unfold c1; cases L with | nil => cases hb0 | cons x L => simpa using hb0
      have hb6 : b < 256 := hb b (List.mem_of_getElem? hb0)
      have hlt : ¬ (1 + b ≤ L.length) := fun q => by rw [← hc1] at q; exact hT (decide_eq_true ⟨h1, q⟩)
      obtain ⟨bb, off, rfl, -, hp⟩ := byte_at h (by omega)
      have l0 := hp 0 b hb0
      rw [Nat.add_zero] at l0
      obtain ⟨n, gn⟩ : ∃ n, L.length = n := ⟨_, rfl⟩
      have Gn := Lib.hid gn
      have hle := h.le
      rw [gn] at hlt h1 HC hle ⊢
      have hw2 : IntKind.i64.wrap (b : Int) = (b : Int) := IntWalk.i64_in _ (by omega)
      have d1 : decide (n ≤ b) = true := decide_eq_true (by omega)
      have d2 : decide ((n : Int) ≤ (b : Int)) = true := decide_eq_true (by omega)
      have d3 : ((n : Int) == 0) = false := beq_eq_false_iff_ne.2 (by omega)
      have d4 : (n == 0) = false := beq_eq_false_iff_ne.2 (by omega)
      have d5 : (0 : Int) < (n : Int) := by omega
      clear h hb gn hn hb0 hc1 hp hT hlt hf
      go_enter Try.func69, Try.ntmps69
      go_wp2_with (first | (go_at_call 19; refine HC.out.mono ?_; rintro e w2 ⟨A2, c2, rfl, -, -, ho, hb⟩; have HO := Lib.hid ho; have HB := Lib.hid hb; clear ho hb))
      refine bodyPost_ret (v := .tuple #[.string { data := #[] }, .slice A2 n c2, .bool false]) (by simp [results, Try.results69, go_sem, Gn.out]) rfl ?_
      have ho := HO.out
      rw [Gn.out] at ho
      exact ⟨A2, n, c2, rfl, rfl, ho, HB.out⟩
    · obtain ⟨n, gn⟩ : ∃ n, L.length = n := ⟨_, rfl⟩
      have Gn := Lib.hid gn
      rw [gn] at h1 HC ⊢
      obtain rfl : n = 0 := by omega
      clear h hb gn hn hT hf
      go_enter Try.func69, Try.ntmps69
      go_wp2_with (first | (go_at_call 19; refine HC.out.mono ?_; rintro e w2 ⟨A2, c2, rfl, -, -, ho, hb⟩; have HO := Lib.hid ho; have HB := Lib.hid hb; clear ho hb))
      refine bodyPost_ret (v := .tuple #[.string { data := #[] }, .slice A2 0 c2, .bool false]) (by simp [results, Try.results69, go_sem, Gn.out]) rfl ?_
      have ho := HO.out
      rw [Gn.out] at ho
      exact ⟨A2, 0, c2, rfl, rfl, ho, HB.out⟩

end Go.Proofs.Ytoiflngpjdghbaa

/- Out of XPkD, XPk29 -/
namespace Go.Proofs.Ytoiflngpjdghbaa
open Go.RowKit
set_option linter.unusedSimpArgs false
set_option linter.unusedVariables false

/-- The next n bytes: behind the end noughts. -/
def nx (n : Nat) (L : List Nat) : List Nat := (L ++ List.replicate n 0).take n


/-- The name in four bytes. -/
def nm4 (L : List Nat) : Int × Int := ((L.getD 0 0 : Int), 65536 * (L.getD 1 0 : Int) + 256 * (L.getD 2 0 : Int) + (L.getD 3 0 : Int))
def tk4 (L : List Nat) : Int × Int := if mayI (nm4 L).1 (nm4 L).2 = true then nm4 L else (0, 0)
theorem nx_app {A R : List Nat} {n : Nat} (h : A.length = n) : nx n (A ++ R) = A := by
  unfold nx
  rw [List.append_assoc, List.take_append_of_le_length (by omega), List.take_of_length_le (by omega)]
theorem drop_app {A R : List Nat} {n : Nat} (h : A.length = n) : (A ++ R).drop n = R := by
  rw [List.drop_append_of_le_length (by omega), List.drop_eq_nil_of_le (by omega), List.nil_append]
theorem nx_len (n : Nat) (L : List Nat) : (nx n L).length = n := by simp [nx]
theorem nx_lt {L : List Nat} (h : ∀ b ∈ L, b < 256) (n : Nat) : ∀ b ∈ nx n L, b < 256 := fun b hb => by
  rcases List.mem_append.1 (List.mem_of_mem_take hb) with q | q
  · exact h b q
  · rw [List.eq_of_mem_replicate q]; omega
theorem tk4_idB {x : Int × Int} (h : mayI x.1 x.2 = true) : tk4 (idB x) = x := by
  have hm : 1 ≤ x.1 ∧ x.1 ≤ 8 ∧ 1 ≤ x.2 ∧ x.2 ≤ 1048576 := of_decide_eq_true h
  have e : nm4 (idB x) = x := by
    refine Prod.ext ?_ ?_
    · simp only [nm4, idB, List.getD_cons_zero]; omega
    · simp only [nm4, idB, List.getD_cons_zero, List.getD_cons_succ]; omega
  unfold tk4
  rw [e, if_pos h]
def idT (L : List Nat) : Bool := decide (4 ≤ L.length ∧ mayI (nm4 L).1 (nm4 L).2 = true)
theorem nx_take {n : Nat} {K : List Nat} (h : n ≤ K.length) : nx n K = K.take n := by
  unfold nx
  rw [List.take_append_of_le_length h]
end Go.Proofs.Ytoiflngpjdghbaa

/- Out of XPk7 -/
namespace Go.Proofs.Ytoiflngpjdghbaa
open Go.RowKit
set_option linter.unusedSimpArgs false
set_option linter.unusedVariables false

theorem exec_makeSlice {P : Program} {ev : Operand → Value} {o : Oper} {w w' : World} (t : TypeId) (l c : Operand) (ho : o.op = .makeSlice t l c) {x y v : Value} (hl : ev l = x) (hc : ev c = y)
    (hrun : (Instr.makeSlice t x y).run P w = .ok v w') : (execOp ev o).run P w = .ok (.value v) w' := by
  unfold execOp
  simp only [ho, hl, hc, Sem.run_bind, Sem.run_pure, Result.andThen_ok, hrun]
/-- A row of one's own is what a call gives. -/
theorem gives8_ow {w w' : World} {L : List Nat} {N : Nat} {v : Value} (hN : L.length = N) (h : Ow w w.heap.size 5 1 v N (rowsV f8 L) w') : ∃ A c, v = .slice A N c ∧ Gives8 w L (.returned (.slice A N c)) w' := by
  subst hN
  obtain ⟨A, c, rfl, hr⟩ := h.rds
  exact ⟨A, c, rfl, A, c, rfl, hr, fun a ha _ => by subst ha; exact (h.own.lt a.block rfl).1, h.own, h.below⟩
set_option maxRecDepth 100000 in
set_option maxHeartbeats 1000000 in
theorem idput_any (A : Option Addr) (c : Nat) (L : List Nat) (x1 x2 : Int) (w : World) (h : RdS w w.heap.size 1 A L.length c (rowsV f8 L)) (hn : L.length ≤ 900000) :
    Calls Try.prog 33 #[.slice A L.length c, .agg #[.int .i64 x1, .int .i64 x2]] w (Gives8 w (L ++ idB (x1, x2))) := by
  obtain ⟨i0, hi, hz0, hz1, hz2⟩ := info_parts_ info_u8
  have HR := Lib.hid h
  obtain ⟨n, gn⟩ : ∃ n, L.length = n := ⟨_, rfl⟩
  have Gn := Lib.hid gn
  rw [gn] at HR hn ⊢
  have hw4 : IntKind.i64.wrap ((n : Int) + 4) = ((n + 4 : Nat) : Int) := by rw [IntWalk.i64_in _ (by omega)]; omega
  obtain ⟨n4, gn4⟩ : ∃ z, n + 4 = z := ⟨_, rfl⟩
  rw [gn4] at hw4
  have HX1 : RowKit.Hid (Whole (w.alloc (.cells #[.int .i64 x1, .int .i64 x2] 42)) w.heap.size 42 [.int .i64 x1, .int .i64 x2]) := Lib.hid (Whole.new_ _ _ [_, _])
  have HR1 := Lib.hid (HR.out.al (.cells #[.int .i64 x1, .int .i64 x2] 42))
  have HB1 := Lib.hid (below1 w (.cells #[.int .i64 x1, .int .i64 x2] 42))
  have Hone := Lib.hid (f8_all L)
  clear h gn
  go_enter Try.func33, Try.ntmps33
  go_upto_region 1 with fail
  obtain ⟨w1, gw1⟩ : ∃ z, w.alloc (.cells #[.int .i64 x1, .int .i64 x2] 42) = z := ⟨_, rfl⟩
  rw [gw1] at HX1 HR1 HB1 ⊢
  clear gw1
  refine wp_region_lit ?_
  refine wl_read (v := ?_) (some 6) rfl (by rfl) ?_ ?_
  rotate_left
  · go_simp; (try with_reducible rfl)
  simp only [Act.put, List.setIfInBounds_toArray, List.set_cons_zero, List.set_cons_succ]
  refine wl_read (v := ?_) (some 7) rfl (by rfl) ?_ ?_
  rotate_left
  · go_simp; (try with_reducible rfl)
  simp only [Act.put, List.setIfInBounds_toArray, List.set_cons_zero, List.set_cons_succ]
  refine wl_read (v := ?_) (some 8) rfl (by rfl) ?_ ?_
  rotate_left
  · go_simp; (try with_reducible rfl)
  simp only [Act.put, List.setIfInBounds_toArray, List.set_cons_zero, List.set_cons_succ]
  obtain ⟨w2, hrun, hown, hgr⟩ := run_make_own (P := Try.prog) w1 w1.heap.size 22 5 i0 _ 1 Try.underlying22 hi hz0 hz1 .i64 .i64 n4 (by rw [hz2]; omega) (by unfold maxLen; omega) (Nat.le_refl _)
  refine wl_run (some 9) rfl (by rfl) (exec_makeSlice 22 _ _ rfl (by rfl) (by rfl) hrun) ?_
  simp only [Act.put, List.setIfInBounds_toArray, List.set_cons_zero, List.set_cons_succ]
  have HP0 : RowKit.Hid (Ow w1 w1.heap.size 5 1 (.slice (some ⟨w1.heap.size, 0, none⟩) 0 n4) 0 [] w2) := Lib.hid ⟨hown, (Below.refl _ _).grown hgr (Nat.le_refl _) (fun k e => by cases e), Nat.le_refl _, hgr.size⟩
  have HR2 := Lib.hid (HR1.out.bl HP0.out.below)
  have HX2 := Lib.hid (HX1.out.bl HP0.out.below)
  obtain ⟨b0, gb0⟩ : ∃ z, w.heap.size = z := ⟨_, rfl⟩
  rw [gb0] at HX1 HX2 ⊢
  have Gb0 := Lib.hid gb0
  clear hrun hown hgr hw4 gn4 gb0
  go_upto_region 3 with (first
    | (at_builtin
       refine wpList_push2 rfl (.tmp 10) (.tmp 11) _ rfl _ 5 i0 _ 1 1 Try.underlying22 hi hz0 hz1 hz2 rfl (by decide) _ _ _ rfl HP0.out _ _ _ _ _ rfl HR2.out Hone.out (by unfold maxLen; omega) (by omega) ?_
       intro v1 w3 how1 hb1 hgr1
       rw [Nat.zero_add, List.nil_append] at how1
       have HP1 := Lib.hid how1
       have HX3 := Lib.hid (HX1.out.bl HP1.out.below)
       clear how1 hb1 hgr1))
  have c0 := HX3.out.cell (i := 0) rfl
  have c1 := HX3.out.cell (i := 1) rfl
  have u1 : IntKind.u8.wrap x1 = (((x1 % 256).toNat : Nat) : Int) := by rw [IntKind.wrap_u8]; omega
  have u2 : IntKind.u8.wrap (x2 / 65536) = (((x2 / 65536 % 256).toNat : Nat) : Int) := by rw [IntKind.wrap_u8]; omega
  have u3 : IntKind.u8.wrap (x2 / 256) = (((x2 / 256 % 256).toNat : Nat) : Int) := by rw [IntKind.wrap_u8]; omega
  have u4 : IntKind.u8.wrap x2 = (((x2 % 256).toNat : Nat) : Int) := by rw [IntKind.wrap_u8]; omega
  have hl : (L ++ idB (x1, x2)).length = n + 4 := by rw [List.length_append, Gn.out]; rfl
  have hrows : rowsV f8 L ++ [.int .u8 (((x1 % 256).toNat : Nat) : Int), .int .u8 (((x2 / 65536 % 256).toNat : Nat) : Int), .int .u8 (((x2 / 256 % 256).toNat : Nat) : Int), .int .u8 (((x2 % 256).toNat : Nat) : Int)] = rowsV f8 (L ++ idB (x1, x2)) := by rw [rows8_app]; rfl
  obtain ⟨q1, g1⟩ : ∃ z, (x1 % 256).toNat = z := ⟨_, rfl⟩
  obtain ⟨q2, g2⟩ : ∃ z, (x2 / 65536 % 256).toNat = z := ⟨_, rfl⟩
  obtain ⟨q3, g3⟩ : ∃ z, (x2 / 256 % 256).toNat = z := ⟨_, rfl⟩
  obtain ⟨q4, g4⟩ : ∃ z, (x2 % 256).toNat = z := ⟨_, rfl⟩
  rw [g1] at u1 hrows
  rw [g2] at u2 hrows
  rw [g3] at u3 hrows
  rw [g4] at u4 hrows
  have Hrows := Lib.hid hrows
  have Hl := Lib.hid hl
  clear hrows hl g1 g2 g3 g4 HX1 HX2
  go_wp2_with (first
    | (at_builtin
       refine wpList_push2 rfl (.tmp 13) (.tmp 28) _ rfl _ 5 i0 _ 1 1 Try.underlying22 hi hz0 hz1 hz2 rfl (by decide) _ _ _ rfl (by exact Ow.up HP1.out (below1 _ _)) _ (some ⟨w3.heap.size, 0, none⟩) 4 4 ([.int .u8 (q1 : Int), .int .u8 (q2 : Int), .int .u8 (q3 : Int), .int .u8 (q4 : Int)]) rfl (by exact RdS.new_ rfl (Nat.lt_succ_self _) rfl rfl) (by simp [Value.oneCell']) (by unfold maxLen; omega) (by omega) ?_
       intro v1 w5 how1 hb1 hgr1
       rw [Hrows.out] at how1
       have HP2 := Lib.hid how1
       clear how1 hb1 hgr1))
  obtain ⟨A9, c9, rfl, hG⟩ := gives8_ow Hl.out ⟨own_lo8 HP2.out.own (by have := HB1.out.size; omega), HB1.out.trans (HP2.out.below.mono HB1.out.size), Nat.le_refl _, (HB1.out.trans (HP2.out.below.mono HB1.out.size)).size⟩
  go_ret
  exact hG

end Go.Proofs.Ytoiflngpjdghbaa

/- Out of XCm11, XPk9 -/
namespace Go.Proofs.Ytoiflngpjdghbaa
open Go.RowKit
set_option linter.unusedSimpArgs false
set_option linter.unusedVariables false

/-- What is appended onto an empty row just made is a row of one's own. -/
theorem fresh_copy {P : Program} (W : World) (t ty e : TypeId) (i : TypeInfo) (z : Value) (size bytes : Nat) (ht : P.underlying t = some (.slice e)) (hi : P.info? e = some i) (hz : i.zero = some z) (hsize : i.size = size) (hby : i.bytes = bytes) (hzs : z.cells.size = size) (hs0 : 0 < size)
    (A : Option Addr) (m c : Nat) (news : List Value) (hr : RdS W W.heap.size size A m c news) (h1 : ∀ u ∈ news, u.oneCell' = true) (hm : m ≤ 1000000) (hb : bytes ≤ 100) :
    ∃ A' c' W', (Builtin.append_ #[t, t] ty #[.slice (some ⟨W.heap.size, 0, none⟩) 0 0, .slice A m c]).run P (W.alloc (.cells #[] e)) = .ok (.slice A' m c') W' ∧ W'.ownsRow W.heap.size e size (.slice A' m c') m news ∧ Below W.heap.size W W' := by
  have how : Ow W W.heap.size e size (.slice (some ⟨W.heap.size, 0, none⟩) 0 0) 0 [] (W.alloc (.cells #[] e)) := ⟨World.ownsRow_made W #[] 0 (Nat.le_refl _) (Nat.zero_le _) (by simp), bel_al (Below.refl _ W) _, Nat.le_refl _, by simp⟩
  have hsum : (0 + m) * bytes ≤ 140737488355328 := Nat.le_trans (Nat.mul_le_mul_left _ hb) (by omega)
  obtain ⟨v', W', hrun, ho, hb2, hg, -⟩ := Ow.app2 (P := P) t ty e i z size bytes W.heap.size ht hi hz hsize hby hzs hs0 _ _ _ how _ A m c news (hr.al (.cells #[] e)) h1 (by unfold maxLen; omega) hsum
  rw [Nat.zero_add, List.nil_append] at ho
  obtain ⟨A', c', rfl, -⟩ := ho.rds
  exact ⟨A', c', W', hrun, ho.own, ho.below⟩
/-- Bytes appended onto a row of one's own. -/
theorem app8 {w W : World} {A A' : Option Addr} {n c m c' : Nat} {X L : List Nat} (ty : TypeId) (ho : Ow w w.heap.size 5 1 (.slice A n c) n (rowsV f8 X) W) (hr : RdS W W.heap.size 1 A' m c' (rowsV f8 L)) (hn : n + m ≤ 1000000) :
    ∃ A2 c2 W', (Builtin.append_ #[22, 22] ty #[.slice A n c, .slice A' m c']).run Try.prog W = .ok (.slice A2 (n + m) c2) W' ∧ Ow w w.heap.size 5 1 (.slice A2 (n + m) c2) (n + m) (rowsV f8 (X ++ L)) W' ∧ W.grownBy W' (Value.slice A n c).ownBlock := by
  obtain ⟨i0, hi, hz0, hz1, hz2⟩ := info_parts_ info_u8
  obtain ⟨v', W', h1, h2, h3, h4, h5⟩ := Ow.app2 (P := Try.prog) 22 ty 5 i0 _ 1 1 _ Try.underlying22 hi hz0 hz1 hz2 rfl (by decide) _ _ _ ho _ A' m c' _ hr (f8_all L) (by unfold maxLen; omega) (by omega)
  rw [← rows8_app] at h2
  obtain ⟨A2, c2, rfl, -⟩ := h2.rds
  exact ⟨A2, c2, W', h1, h2, h4⟩
/-- A literal of one byte. -/
theorem one8 (W : World) (b : Nat) : RdS (W.alloc (.cells #[.int .u8 (b : Int)] 5)) (W.alloc (.cells #[.int .u8 (b : Int)] 5)).heap.size 1 (some ⟨W.heap.size, 0, none⟩) 1 1 (rowsV f8 [b]) := RdS.of_whole8 (Whole.new_ _ _ [_]) rfl
end Go.Proofs.Ytoiflngpjdghbaa

/- Out of XPk13a -/
namespace Go.Proofs.Ytoiflngpjdghbaa
open Go.RowKit
set_option linter.unusedSimpArgs false
set_option linter.unusedVariables false

theorem conv_str (s : ByteArray) (w : World) : ∃ c w', (convert 9 22 (.string s)).run Try.prog w = .ok (.slice (some ⟨w.heap.size, 0, none⟩) s.size c) w' ∧ RdS w' w'.heap.size 1 (some ⟨w.heap.size, 0, none⟩) s.size c (rowsV f8 (tB s)) ∧ Below w.heap.size w w' := by
  have h := run_bytes_of_string (P := Try.prog) w 9 22 5 s (Try.underlying9 ) (Try.underlying22 ) (Try.underlying5 )
  have hb : Below w.heap.size w (w.drew.alloc (.cells (bytesRow s (grownCap w s.size 0 5)) 5 ((bytesRow s (grownCap w s.size 0 5)).size, (bytesRow s (grownCap w s.size 0 5)).size + 1))) := (Below.refl _ w).drew.alloc (by simp) _
  have hr : ∀ j u, (rowsV f8 (tB s))[j]? = some u → (w.drew.alloc (.cells (bytesRow s (grownCap w s.size 0 5)) 5 ((bytesRow s (grownCap w s.size 0 5)).size, (bytesRow s (grownCap w s.size 0 5)).size + 1))).cell? ((⟨w.heap.size, 0, none⟩ : Addr).add j) = some u := fun j u hu => by
    have hj : j < s.data.size := by
      have := (List.getElem?_eq_some_iff.1 hu).1
      rw [rows8_len, tB_len] at this
      exact this
    rw [rows_get, tB_data, List.getElem?_map, Array.getElem?_toList, Array.getElem?_eq_getElem hj] at hu
    have hx := bytesRow_at s (grownCap w s.size 0 5) j hj
    have hu2 : some (Value.int .u8 (s.data[j].toNat : Int)) = some u := hu
    rw [hu2] at hx
    exact World.news_of_block (fr := _) (heap_alloc_new w.drew _) j u (by rw [Array.getElem?_toList]; exact hx)
  exact ⟨_, _, h, ⟨by rw [rows8_len, tB_len, Nat.mul_one], fun e => (by cases e), grownCap_ge _ _ _ _, fun a ha _ => (by obtain rfl := Option.some.inj ha; simp), fun a ha j u hu => (by obtain rfl := Option.some.inj ha; exact hr j u hu)⟩, hb⟩
theorem exec_convert_w {P : Program} {ev : Operand → Value} {o : Oper} {w w' : World} (s d : TypeId) (x : Operand) (ho : o.op = .convert s d x) {v u : Value} (hx : ev x = v) (hrun : (convert s d v).run P w = .ok u w') : (execOp ev o).run P w = .ok (.value u) w' := by
  unfold execOp
  simp only [ho, hx, Sem.run_bind, Sem.run_pure, Result.andThen_ok, hrun]
theorem beN_get : ∀ (k U j : Nat), j < k → (beN k U)[j]? = some (U / 256 ^ (k - 1 - j) % 256)
  | 0, U, j, h => by omega
  | k + 1, U, 0, h => by rw [beN_cons]; rfl
  | k + 1, U, j + 1, h => by
    rw [beN_cons, List.getElem?_cons_succ, beN_get k U j (by omega)]
    rw [show k + 1 - 1 - (j + 1) = k - 1 - j by omega]

end Go.Proofs.Ytoiflngpjdghbaa

/- The document's Num. -/
namespace Go.Proofs.Ytoiflngpjdghbaa
open Go.RowKit
set_option linter.unusedSimpArgs false
set_option linter.unusedVariables false

set_option maxRecDepth 100000 in
set_option maxHeartbeats 4000000 in
theorem rnum_any (A : Option Addr) (c : Nat) (L : List Nat) (x : Int) (w : World) (h : RdS w w.heap.size 1 A L.length c (rowsV f8 L)) (hn : L.length ≤ 900000) :
    Calls Try.prog 27 #[.slice A L.length c, .int .i64 x] w (Gives8 w (L ++ be8 x)) := by
  obtain ⟨i0, hi, hz0, hz1, hz2⟩ := info_parts_ info_u8
  obtain ⟨A1, c1, w1, hrun, how, hbw⟩ := fresh_copy (P := Try.prog) w 22 22 5 i0 _ 1 1 Try.underlying22 hi hz0 hz1 hz2 rfl (by decide) A L.length c _ h (f8_all L) (by omega) (by decide)
  have hx := wrap_u64_ x
  have hU := u64_lt x
  have e8 : L ++ be8 x = L ++ (beN 8 (u64 x)).take 8 := by
    rw [List.take_of_length_le (by rw [beN_len]; omega)]
    rfl
  rw [e8]
  obtain ⟨U, gU⟩ : ∃ U, u64 x = U := ⟨_, rfl⟩
  rw [gU] at hx hU ⊢
  have Hn : RowKit.Hid (L.length ≤ 900000) := Lib.hid hn
  have HU := Lib.hid hU
  have Hx := Lib.hid hx
  have HO1 : RowKit.Hid (Ow w w.heap.size 5 1 (.slice A1 L.length c1) L.length (rowsV f8 (L ++ (beN 8 U).take 0)) w1) := Lib.hid (by rw [List.take_zero, List.append_nil]; exact ⟨how, hbw, Nat.le_refl _, hbw.size⟩)
  have Hl8 : RowKit.Hid ((L ++ (beN 8 U).take 8).length = L.length + 8) := Lib.hid (by rw [List.length_append, List.length_take, beN_len]; rfl)
  obtain ⟨n, gn⟩ : ∃ n, L.length = n := ⟨_, rfl⟩
  rw [gn] at hrun HO1 Hn Hl8 ⊢
  clear h hn e8 gU hU hx how hbw gn hi hz0 hz1 hz2
  go_enter Try.func27, Try.ntmps27
  go_upto_region 2 with (first
    | (at_builtin
       refine wl_run (some 9) rfl (by rfl) (exec_append (by rfl) (by rfl) (by rfl) hrun) ?_))
  clear hrun
  go_wp2
  go_loopw [5, 6] (fun v si wr => ∃ (k N : Nat) (A2 : Option Addr) (c2 : Nat), k ≤ 8 ∧ si = .int .i64 (7 - (k : Int)) ∧ v = .slice A2 N c2 ∧ RowKit.Hid (N = n + k) ∧ RowKit.Hid (Ow w w.heap.size 5 1 (.slice A2 N c2) N (rowsV f8 (L ++ (beN 8 U).take k)) wr)) (fun _ si _ => (intOf si + 1).toNat)
  case atStart => exact ⟨0, n, A1, c1, by omega, rfl, rfl, Lib.hid rfl, HO1⟩
  case round =>
    clear HO1
    obtain ⟨k, N, A2, c2, hk, rfl, rfl, HN, HO⟩ := hrel
    by_cases hlt : k < 8
    · have hb := beN_get 8 U k hlt
      obtain ⟨db, gdb⟩ : ∃ z, U / 256 ^ (8 - 1 - k) % 256 = z := ⟨_, rfl⟩
      rw [gdb] at hb
      have hnx : (beN 8 U).take k ++ [db] = (beN 8 U).take (k + 1) := by rw [List.take_add_one, hb]; rfl
      have Hnx := Lib.hid hnx
      obtain ⟨A3, c3, w3, hrun, ho3, hg3⟩ := app8 22 (Ow.up HO.out (below1 wr (.cells #[.int .u8 (db : Int)] 5))) (one8 wr db) (by have := HN.out; have := Hn.out; omega)
      rw [List.append_assoc, hnx] at ho3
      have HO3 := Lib.hid ho3
      have hx := Hx.out
      have hd0 : decide ((0 : Int) ≤ 7 - (k : Int)) = true := decide_eq_true (by omega)
      have hsb : IntKind.i64.wrap (7 - (k : Int) - 1) = 7 - ((k + 1 : Nat) : Int) := by rw [IntWalk.i64_in _ (by omega)]; omega
      have h8m : IntKind.i64.wrap (8 * (7 - (k : Int))) = ((8 * (7 - k) : Nat) : Int) := by rw [IntWalk.i64_in _ (by omega)]; omega
      clear hb hnx ho3 hg3
      have hcs : k = 0 ∨ k = 1 ∨ k = 2 ∨ k = 3 ∨ k = 4 ∨ k = 5 ∨ k = 6 ∨ k = 7 := by omega
      rcases hcs with rfl | rfl | rfl | rfl | rfl | rfl | rfl | rfl
      · have hw8 : IntKind.u8.wrap ((U : Int) / 72057594037927936) = (db : Int) := by rw [IntKind.wrap_u8]; have h9 : U / 72057594037927936 % 256 = db := gdb; omega
        have hw9 : IntKind.i64.wrap 56 = 56 := rfl
        have hd1 : decide ((0 : Int) ≤ 7) = true := rfl
        replace hsb : IntKind.i64.wrap (7 - 1) = 7 - ((1 : Nat) : Int) := hsb
        clear hd0 h8m gdb hlt hk
        rw [show (7 : Int) - ((0 : Nat) : Int) = 7 from rfl]
        go_wp2_with (first
          | (at_builtin
             refine wl_run (some 22) rfl (by rfl) (exec_append (by rfl) (by rfl) (by rfl) hrun) ?_))
        go_roundw
        case rel => exact ⟨1, N + 1, A3, c3, by omega, by first | rfl | simp, rfl, Lib.hid (by have := HN.out; omega), HO3⟩
        case measure => first | (simp [intOf]; done) | (simp [intOf]; omega) | decide
      · have hw8 : IntKind.u8.wrap ((U : Int) / 281474976710656) = (db : Int) := by rw [IntKind.wrap_u8]; have h9 : U / 281474976710656 % 256 = db := gdb; omega
        have hw9 : IntKind.i64.wrap 48 = 48 := rfl
        have hd1 : decide ((0 : Int) ≤ 6) = true := rfl
        replace hsb : IntKind.i64.wrap (6 - 1) = 7 - ((2 : Nat) : Int) := hsb
        clear hd0 h8m gdb hlt hk
        rw [show (7 : Int) - ((1 : Nat) : Int) = 6 from rfl]
        go_wp2_with (first
          | (at_builtin
             refine wl_run (some 22) rfl (by rfl) (exec_append (by rfl) (by rfl) (by rfl) hrun) ?_))
        go_roundw
        case rel => exact ⟨2, N + 1, A3, c3, by omega, by first | rfl | simp, rfl, Lib.hid (by have := HN.out; omega), HO3⟩
        case measure => first | (simp [intOf]; done) | (simp [intOf]; omega) | decide
      · have hw8 : IntKind.u8.wrap ((U : Int) / 1099511627776) = (db : Int) := by rw [IntKind.wrap_u8]; have h9 : U / 1099511627776 % 256 = db := gdb; omega
        have hw9 : IntKind.i64.wrap 40 = 40 := rfl
        have hd1 : decide ((0 : Int) ≤ 5) = true := rfl
        replace hsb : IntKind.i64.wrap (5 - 1) = 7 - ((3 : Nat) : Int) := hsb
        clear hd0 h8m gdb hlt hk
        rw [show (7 : Int) - ((2 : Nat) : Int) = 5 from rfl]
        go_wp2_with (first
          | (at_builtin
             refine wl_run (some 22) rfl (by rfl) (exec_append (by rfl) (by rfl) (by rfl) hrun) ?_))
        go_roundw
        case rel => exact ⟨3, N + 1, A3, c3, by omega, by first | rfl | simp, rfl, Lib.hid (by have := HN.out; omega), HO3⟩
        case measure => first | (simp [intOf]; done) | (simp [intOf]; omega) | decide
      · have hw8 : IntKind.u8.wrap ((U : Int) / 4294967296) = (db : Int) := by rw [IntKind.wrap_u8]; have h9 : U / 4294967296 % 256 = db := gdb; omega
        have hw9 : IntKind.i64.wrap 32 = 32 := rfl
        have hd1 : decide ((0 : Int) ≤ 4) = true := rfl
        replace hsb : IntKind.i64.wrap (4 - 1) = 7 - ((4 : Nat) : Int) := hsb
        clear hd0 h8m gdb hlt hk
        rw [show (7 : Int) - ((3 : Nat) : Int) = 4 from rfl]
        go_wp2_with (first
          | (at_builtin
             refine wl_run (some 22) rfl (by rfl) (exec_append (by rfl) (by rfl) (by rfl) hrun) ?_))
        go_roundw
        case rel => exact ⟨4, N + 1, A3, c3, by omega, by first | rfl | simp, rfl, Lib.hid (by have := HN.out; omega), HO3⟩
        case measure => first | (simp [intOf]; done) | (simp [intOf]; omega) | decide
      · have hw8 : IntKind.u8.wrap ((U : Int) / 16777216) = (db : Int) := by rw [IntKind.wrap_u8]; have h9 : U / 16777216 % 256 = db := gdb; omega
        have hw9 : IntKind.i64.wrap 24 = 24 := rfl
        have hd1 : decide ((0 : Int) ≤ 3) = true := rfl
        replace hsb : IntKind.i64.wrap (3 - 1) = 7 - ((5 : Nat) : Int) := hsb
        clear hd0 h8m gdb hlt hk
        rw [show (7 : Int) - ((4 : Nat) : Int) = 3 from rfl]
        go_wp2_with (first
          | (at_builtin
             refine wl_run (some 22) rfl (by rfl) (exec_append (by rfl) (by rfl) (by rfl) hrun) ?_))
        go_roundw
        case rel => exact ⟨5, N + 1, A3, c3, by omega, by first | rfl | simp, rfl, Lib.hid (by have := HN.out; omega), HO3⟩
        case measure => first | (simp [intOf]; done) | (simp [intOf]; omega) | decide
      · have hw8 : IntKind.u8.wrap ((U : Int) / 65536) = (db : Int) := by rw [IntKind.wrap_u8]; have h9 : U / 65536 % 256 = db := gdb; omega
        have hw9 : IntKind.i64.wrap 16 = 16 := rfl
        have hd1 : decide ((0 : Int) ≤ 2) = true := rfl
        replace hsb : IntKind.i64.wrap (2 - 1) = 7 - ((6 : Nat) : Int) := hsb
        clear hd0 h8m gdb hlt hk
        rw [show (7 : Int) - ((5 : Nat) : Int) = 2 from rfl]
        go_wp2_with (first
          | (at_builtin
             refine wl_run (some 22) rfl (by rfl) (exec_append (by rfl) (by rfl) (by rfl) hrun) ?_))
        go_roundw
        case rel => exact ⟨6, N + 1, A3, c3, by omega, by first | rfl | simp, rfl, Lib.hid (by have := HN.out; omega), HO3⟩
        case measure => first | (simp [intOf]; done) | (simp [intOf]; omega) | decide
      · have hw8 : IntKind.u8.wrap ((U : Int) / 256) = (db : Int) := by rw [IntKind.wrap_u8]; have h9 : U / 256 % 256 = db := gdb; omega
        have hw9 : IntKind.i64.wrap 8 = 8 := rfl
        have hd1 : decide ((0 : Int) ≤ 1) = true := rfl
        replace hsb : IntKind.i64.wrap (1 - 1) = 7 - ((7 : Nat) : Int) := hsb
        clear hd0 h8m gdb hlt hk
        rw [show (7 : Int) - ((6 : Nat) : Int) = 1 from rfl]
        go_wp2_with (first
          | (at_builtin
             refine wl_run (some 22) rfl (by rfl) (exec_append (by rfl) (by rfl) (by rfl) hrun) ?_))
        go_roundw
        case rel => exact ⟨7, N + 1, A3, c3, by omega, by first | rfl | simp, rfl, Lib.hid (by have := HN.out; omega), HO3⟩
        case measure => first | (simp [intOf]; done) | (simp [intOf]; omega) | decide
      · have hw8 : IntKind.u8.wrap ((U : Int)) = (db : Int) := by rw [IntKind.wrap_u8]; have h9 : U / 1 % 256 = db := gdb; omega
        have hw9 : IntKind.i64.wrap 0 = 0 := rfl
        have hd1 : decide ((0 : Int) ≤ 0) = true := rfl
        replace hsb : IntKind.i64.wrap (0 - 1) = 7 - ((8 : Nat) : Int) := hsb
        clear hd0 h8m gdb hlt hk
        rw [show (7 : Int) - ((7 : Nat) : Int) = 0 from rfl]
        go_wp2_with (first
          | (at_builtin
             refine wl_run (some 22) rfl (by rfl) (exec_append (by rfl) (by rfl) (by rfl) hrun) ?_))
        go_roundw
        case rel => exact ⟨8, N + 1, A3, c3, by omega, by first | rfl | simp, rfl, Lib.hid (by have := HN.out; omega), HO3⟩
        case measure => first | (simp [intOf]; done) | (simp [intOf]; omega) | decide
    · obtain rfl : k = 8 := by omega
      have hd0 : decide ((0 : Int) ≤ 7 - ((8 : Nat) : Int)) = false := rfl
      have HG : RowKit.Hid (∃ A c, Value.slice A2 N c2 = .slice A N c ∧ Gives8 w (L ++ (beN 8 U).take 8) (.returned (.slice A N c)) wr) := Lib.hid (gives8_ow (by rw [Hl8.out, HN.out]) HO.out)
      clear hlt hk
      go_wp2
      go_ret
      obtain ⟨A9, c9, e9, h9⟩ := HG.out
      injection e9 with a1 a2 a3
      subst a1 a3
      exact h9
end Go.Proofs.Ytoiflngpjdghbaa

/- The document's Text, TakeNum, TakeText. -/
namespace Go.Proofs.Ytoiflngpjdghbaa
open Go.RowKit
set_option linter.unusedSimpArgs false
set_option linter.unusedVariables false

set_option maxRecDepth 100000 in
set_option maxHeartbeats 4000000 in
theorem rtext_any (A : Option Addr) (c : Nat) (L : List Nat) (s : ByteArray) (w : World) (h : RdS w w.heap.size 1 A L.length c (rowsV f8 L)) (hn : L.length ≤ 900000) (hs : s.size ≤ 10000) :
    Calls Try.prog 25 #[.slice A L.length c, .string s] w (Gives8 w (L ++ textB s)) := by
  obtain ⟨i0, hi, hz0, hz1, hz2⟩ := info_parts_ info_u8
  obtain ⟨A1, c1, w1, hrun, how, hbw⟩ := fresh_copy (P := Try.prog) w 22 22 5 i0 _ 1 1 Try.underlying22 hi hz0 hz1 hz2 rfl (by decide) A L.length c _ h (f8_all L) (by omega) (by decide)
  have ho1 : Ow w w.heap.size 5 1 (.slice A1 L.length c1) L.length (rowsV f8 L) w1 := ⟨how, hbw, Nat.le_refl _, hbw.size⟩
  have e1 : (L ++ [s.size % 256] ++ tB s).length = L.length + 1 + s.size := by simp [tB_len]; omega
  rw [show L ++ textB s = L ++ [s.size % 256] ++ tB s from by rw [textB, List.append_assoc]]
  obtain ⟨S, gS⟩ : ∃ S, s.size = S := ⟨_, rfl⟩
  have Hs := Lib.hid gS
  have hsz : (s.size : Int) = (S : Int) := by rw [gS]
  rw [gS] at e1 hs ⊢
  have hw8 : IntKind.u8.wrap (S : Int) = ((S % 256 : Nat) : Int) := by rw [IntKind.wrap_u8]; omega
  obtain ⟨S8, gS8⟩ : ∃ z, S % 256 = z := ⟨_, rfl⟩
  rw [gS8] at e1 hw8 ⊢
  obtain ⟨A2, c2, w2, hrun2, ho2, -⟩ := app8 22 (Ow.up ho1 (below1 w1 (.cells #[.int .u8 (S8 : Int)] 5))) (one8 w1 S8) (by omega)
  obtain ⟨c3, w3, hrun3, hr3, hb3⟩ := conv_str s w2
  rw [gS] at hrun3 hr3
  obtain ⟨A4, c4, w4, hrun4, ho4, -⟩ := app8 22 (Ow.up ho2 hb3) hr3 (by omega)
  have He1 := Lib.hid e1
  have HO4 := Lib.hid ho4
  obtain ⟨n, gn⟩ : ∃ n, L.length = n := ⟨_, rfl⟩
  rw [gn] at hrun hrun2 hrun4 HO4 He1 ⊢
  clear h hn how hbw ho1 ho2 hr3 hb3 ho4 e1 gn gS gS8 hi hz0 hz1 hz2 hs
  go_enter Try.func25, Try.ntmps25
  go_upto_region 2 with (first
    | (at_builtin
       refine wl_run (some 8) rfl (by rfl) (exec_append (by rfl) (by rfl) (by rfl) hrun) ?_))
  clear hrun
  go_upto_region 3 with (first
    | (at_builtin
       refine wl_run (some 14) rfl (by rfl) (exec_append (by rfl) (by rfl) (by rfl) hrun2) ?_))
  clear hrun2
  refine wp_region_lit ?_
  refine wl_read (v := ?_) (some 15) rfl (by rfl) ?_ ?_
  rotate_left
  · go_simp; (try with_reducible rfl)
  simp only [Act.put, List.setIfInBounds_toArray, List.set_cons_zero, List.set_cons_succ]
  refine wl_read (v := ?_) (some 16) rfl (by rfl) ?_ ?_
  rotate_left
  · go_simp; (try with_reducible rfl)
  simp only [Act.put, List.setIfInBounds_toArray, List.set_cons_zero, List.set_cons_succ]
  refine wl_run (some 17) rfl (by rfl) (exec_convert_w 9 22 (.tmp 16) rfl rfl hrun3) ?_
  simp only [Act.put, List.setIfInBounds_toArray, List.set_cons_zero, List.set_cons_succ]
  clear hrun3
  go_wp2_with (first
    | (at_builtin
       refine wl_run (some 18) rfl (by rfl) (exec_append (by rfl) (by rfl) (by rfl) hrun4) ?_))
  go_ret
  obtain ⟨A9, c9, e9, h9⟩ := gives8_ow He1.out HO4.out
  injection e9 with a1 a2 a3
  subst a1 a3
  exact h9
/-- What the document's TakeNum tells. -/
def GivesRN (w : World) (L : List Nat) (e : Ending) (w' : World) : Prop :=
  ∃ A n c, e = .returned (.tuple #[.int .i64 (if 8 ≤ L.length then num8 (L.take 8) else 0), .slice A n c, .bool (decide (8 ≤ L.length))]) ∧ n = (if 8 ≤ L.length then L.drop 8 else L).length ∧ RdS w' w'.heap.size 1 A n c (rowsV f8 (if 8 ≤ L.length then L.drop 8 else L)) ∧ Below w.heap.size w w'
theorem u64_step (X b : Nat) (hX : X < 72057594037927936) (hb : b < 256) : IntKind.u64.wrap (256 * (X : Int)) = ((256 * X : Nat) : Int) ∧ IntKind.u64.wrap (((256 * X : Nat) : Int) + (b : Int)) = ((X * 256 + b : Nat) : Int) := by
  constructor <;> · rw [IntKind.wrap_u64]; omega
set_option maxRecDepth 100000 in
set_option maxHeartbeats 4000000 in
theorem rtakenum_any (A : Option Addr) (n c : Nat) (L : List Nat) (w : World) (h : RdS w w.heap.size 1 A n c (rowsV f8 L)) (hn : n ≤ 100000) (hb : ∀ b ∈ L, b < 256) :
    Calls Try.prog 44 #[.slice A n c] w (GivesRN w L) := by
  have hl := h.rlen f8_len (by decide)
  unfold GivesRN
  rw [hl]
  by_cases h8 : 8 ≤ n
  · rw [if_pos h8, if_pos h8, decide_eq_true h8]
    have hlow := h.low_ (k := 8) h8
    have hdl : (L.drop 8).length = n - 8 := by rw [List.length_drop, hl]
    rw [show (rowsV f8 L).drop (8 * 1) = rowsV f8 (L.drop 8) from by rw [rowsV_map8, rowsV_map8, List.map_drop], ← hdl] at hlow
    obtain ⟨A1, hA1⟩ : ∃ A1, (if c = 8 then A else A.map (·.add (8 * 1))) = A1 := ⟨_, rfl⟩
    rw [hA1] at hlow
    have HLow := Lib.hid hlow
    obtain ⟨M, gM⟩ : ∃ M, L.drop 8 = M := ⟨_, rfl⟩
    rw [gM] at HLow hdl ⊢
    obtain ⟨m, gm⟩ : ∃ m, M.length = m := ⟨_, rfl⟩
    rw [gm] at HLow hdl ⊢
    obtain ⟨bb, off, rfl, -, hp⟩ := byte_at h (by omega)
    have Hp := Lib.hid hp
    have Hb := Lib.hid hb
    have Hl := Lib.hid hl
    have Hlt := Lib.hid (fun k hk => deN_lt hb k hk)
    have HAr := Lib.hid hA1
    have Hml := Lib.hid hdl.symm
    obtain ⟨x, gx⟩ : ∃ x, num8 (L.take 8) = x := ⟨_, rfl⟩
    have Gx := Lib.hid gx
    rw [gx]
    have hd1 : decide ((n : Int) < 8) = false := decide_eq_false (by omega)
    have hd2 : decide (n < 8) = false := decide_eq_false (by omega)
    have H8 := Lib.hid h8
    clear h hb hlow gM gm hA1 hdl hp gx hl
    go_enter Try.func44, Try.ntmps44
    go_upto_region 4 with fail
    clear hd1 hd2
    go_wp2
    go_loop [5, 6] (fun u i => ∃ k : Nat, k ≤ 8 ∧ u = .int .u64 ((deN (L.take k) : Nat) : Int) ∧ i = .int .i64 (k : Int)) (fun _ i => 8 - (intOf i).toNat)
    case atStart => exact ⟨0, by omega, by simp [deN], by simp⟩
    case round =>
      obtain ⟨k, hk, rfl, rfl⟩ := hrel
      by_cases hlt : k < 8
      · obtain ⟨b, hbk⟩ : ∃ b, L[k]? = some b := ⟨_, List.getElem?_eq_getElem (by have := Hl.out; omega)⟩
        have l0 := Hp.out k b hbk
        have hb6 : b < 256 := Hb.out b (List.mem_of_getElem? hbk)
        have hd : deN (L.take (k + 1)) = deN (L.take k) * 256 + b := by rw [take_snoc_ L k b hbk, deN_snoc]
        have hdl : deN (L.take k) < 72057594037927936 := by
          have h1 := Hlt.out k (by have := Hl.out; omega)
          have h2 : 256 ^ k ≤ 256 ^ 7 := Nat.pow_le_pow_right (by omega) (by omega)
          omega
        obtain ⟨X, gX⟩ : ∃ X, deN (L.take k) = X := ⟨_, rfl⟩
        rw [gX] at hd hdl ⊢
        have Hd := Lib.hid hd
        obtain ⟨hw1, hw3⟩ := u64_step X b hdl hb6
        obtain ⟨X2, gX2⟩ : ∃ z, 256 * X = z := ⟨_, rfl⟩
        rw [gX2] at hw1 hw3
        obtain ⟨X3, gX3⟩ : ∃ z, X * 256 + b = z := ⟨_, rfl⟩
        rw [gX3] at hw3
        have Hd2 : RowKit.Hid (deN (L.take (k + 1)) = X3) := Lib.hid (by rw [hd, gX3])
        have hw2 : IntKind.u64.wrap (b : Int) = (b : Int) := by rw [IntKind.wrap_u64]; omega
        have hk8 : (k : Int) < 8 := by omega
        have hkn : (k : Int) < (n : Int) := by have := H8.out; omega
        clear gX hd hbk gX2 gX3 hdl
        go_wp2
        refine ⟨⟨k + 1, by omega, ?_, by go_num⟩, by simp [intOf]; omega⟩
        rw [Hd2.out]
      · obtain rfl : k = 8 := by omega
        have hwx : IntKind.i64.wrap ((deN (L.take 8) : Nat) : Int) = x := Gx.out
        obtain ⟨X, gX⟩ : ∃ X, deN (L.take 8) = X := ⟨_, rfl⟩
        rw [gX] at hwx ⊢
        clear gX
        go_upto_region 8 with fail
        refine wp_region_reg (Nil_) (by kernel_rfl) ?_
        apply wpR_next 0 (some 23)
        · simp only [List.getElem?_toArray, List.getElem?_cons_succ, List.getElem?_cons_zero]; exact rfl
        · rfl
        · kernel_rfl
        · kernel_rfl
        · kernel_rfl
        · exact fun _ _ _ _ h => h
        apply Exists.intro
        apply And.intro
        · apply yr_run; rfl; intro w' hw'; go_simp; (try with_reducible rfl)
        simp only [Act.put, List.setIfInBounds_toArray, List.set_cons_zero, List.set_cons_succ]
        apply wpR_next 1 (some 24)
        · simp only [List.getElem?_toArray, List.getElem?_cons_succ, List.getElem?_cons_zero]; exact rfl
        · rfl
        · kernel_rfl
        · kernel_rfl
        · kernel_rfl
        · exact fun _ _ _ _ h => h
        apply Exists.intro
        apply And.intro
        · apply yr_run; rfl; intro w' hw'; go_simp; (try with_reducible rfl)
        simp only [Act.put, List.setIfInBounds_toArray, List.set_cons_zero, List.set_cons_succ]
        apply wpR_next 2 (some 25)
        · simp only [List.getElem?_toArray, List.getElem?_cons_succ, List.getElem?_cons_zero]; exact rfl
        · rfl
        · kernel_rfl
        · kernel_rfl
        · kernel_rfl
        · exact fun _ _ _ _ h => h
        apply Exists.intro
        apply And.intro
        · apply yr_run; rfl; intro w' hw'; go_simp; (try with_reducible rfl)
        simp only [Act.put, List.setIfInBounds_toArray, List.set_cons_zero, List.set_cons_succ]
        apply wpR_next 3 (some 26)
        · simp only [List.getElem?_toArray, List.getElem?_cons_succ, List.getElem?_cons_zero]; exact rfl
        · rfl
        · kernel_rfl
        · kernel_rfl
        · kernel_rfl
        · exact fun _ _ _ _ h => h
        apply Exists.intro
        apply And.intro
        · apply yr_run; rfl; intro w' hw'; exact exec_slice_low_as 22 5 (.tmp 25) (.const (.int .i64 8)) rfl Try.underlying22 (s := 1) (by kernel_rfl) rfl rfl H8.out HAr.out Hml.out rfl
        simp only [Act.put, List.setIfInBounds_toArray, List.set_cons_zero, List.set_cons_succ]
        apply wpR_next 4 (some 2)
        · simp only [List.getElem?_toArray, List.getElem?_cons_succ, List.getElem?_cons_zero]; exact rfl
        · rfl
        · kernel_rfl
        · kernel_rfl
        · kernel_rfl
        · exact fun _ _ _ _ h => h
        apply Exists.intro
        apply And.intro
        · apply yr_run; rfl; intro w' hw'; go_simp; (try with_reducible rfl)
        simp only [Act.put, List.setIfInBounds_toArray, List.set_cons_zero, List.set_cons_succ]
        apply wpR_next 5 (some 3)
        · simp only [List.getElem?_toArray, List.getElem?_cons_succ, List.getElem?_cons_zero]; exact rfl
        · rfl
        · kernel_rfl
        · kernel_rfl
        · kernel_rfl
        · exact fun _ _ _ _ h => h
        apply Exists.intro
        apply And.intro
        · apply yr_run; rfl; intro w' hw'; go_simp; (try with_reducible rfl)
        simp only [Act.put, List.setIfInBounds_toArray, List.set_cons_zero, List.set_cons_succ]
        apply wpR_next 6 (some 4)
        · simp only [List.getElem?_toArray, List.getElem?_cons_succ, List.getElem?_cons_zero]; exact rfl
        · rfl
        · kernel_rfl
        · kernel_rfl
        · kernel_rfl
        · exact fun _ _ _ _ h => h
        apply Exists.intro
        apply And.intro
        · apply yr_run; rfl; intro w' hw'; go_simp; (try with_reducible rfl)
        simp only [Act.put, List.setIfInBounds_toArray, List.set_cons_zero, List.set_cons_succ]
        refine wpR_done (by kernel_rfl) ?_ _
        intro w9 hw9
        have HD9 : RowKit.Hid (Ext w w9) := Lib.hid (Ext.trans (below_drewN w.heap.size w 1) hw9)
        clear hw9
        go_wp2
        refine bodyPost_ret (v := .tuple #[.int .i64 x, .slice A1 m (c - 8), .bool true]) (by simp [results, Try.results44, go_sem]) rfl ?_
        exact ⟨A1, m, c - 8, rfl, rfl, HLow.out.bl HD9.out, HD9.out⟩
  · rw [if_neg h8, if_neg h8, decide_eq_false h8]
    have HR := Lib.hid h
    have Hl := Lib.hid hl
    have hd1 : decide ((n : Int) < 8) = true := decide_eq_true (by omega)
    have hd2 : decide (n < 8) = true := decide_eq_true (by omega)
    clear h hb hn hl
    go_enter Try.func44, Try.ntmps44
    go_wp2
    exact bodyPost_ret (v := .tuple #[.int .i64 0, .slice A n c, .bool false]) (by simp [results, Try.results44, go_sem]) rfl ⟨A, n, c, rfl, Hl.out.symm, HR.out, Below.refl _ _⟩
/-- What the document's TakeText tells. -/
def GivesRT (w : World) (L : List Nat) (e : Ending) (w' : World) : Prop :=
  ∃ A n c, e = .returned (.tuple #[.string (txT L), .slice A n c, .bool (isT L)]) ∧ n = (leT L).length ∧ RdS w' w'.heap.size 1 A n c (rowsV f8 (leT L)) ∧ Below w.heap.size w w'

end Go.Proofs.Ytoiflngpjdghbaa
