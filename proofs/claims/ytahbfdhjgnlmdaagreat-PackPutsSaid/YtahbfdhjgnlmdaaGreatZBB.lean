/- Several texts in one. -/
import Derived.ProofKit
import Derived.Below
import Derived.Carry
import Derived.WideKeyArgs
import Derived.OpenShut
import Derived.Deep.Slices
import Derived.Test.YtahbfdhjgnlmdaaGreatProg
import Derived.KernelRfl
import Derived.Test.YtahbfdhjgnlmdaaGreatZBA
import Derived.Deep.QuietTactic
import Derived.BigQuiet
import Derived.LoopTactic
import Derived.Outline
import Derived.Laws.RangeString
import Derived.Laws.RangeAny
import Derived.Maps.OwnSet
import Derived.Deep.MidRow

/- Words for all layers, in one text. -/
namespace Go.Proofs.YtahbfdhjgnlmdaaGreat
open Go.ChangeShapes Go.WideShapes Go.ChangeAt Go.RowKit

section
variable {H : Type} {enc : TypeId × Value → H} {P : Program}

/-- A row of arguments reads as it did where below the old heap's end nothing has turned. -/
theorem trodAll_stays (hl : laidOutB P = true) {W W' : World} (hb : Below W.heap.size W W') : ∀ (ts : List TypeId) (vs : List Value) (ds : List (DataW H)) (ps : List MemPlace) (sp : Nat → Bool),
    (∀ t ∈ ts, P.readableRec t = true ∧ t < P.types.size) → DataW.TrodAll enc P W 0 (fun _ => true) true ts vs ds ps →
    (∀ p ∈ ps, p.block < W.heap.size) → (∀ p ∈ ps, sp p.block = true) → DataW.TrodAll enc P W' 0 sp true ts vs ds ps
  | [], _, _, _, _, _, h, _, _ => by
    obtain ⟨rfl, rfl, rfl⟩ := trodAll_nil h
    exact rfl
  | t :: ts, vs, ds, ps, sp, ht, h, hlt, hs => by
    obtain ⟨v, vs', d, ds', p, q, rfl, rfl, rfl, h1, h2⟩ := trodAll_cons h
    have ⟨hr, hrow⟩ := ht t (by simp)
    refine ⟨p, q, WideElems.Trod_stays hl hr hrow h1 (fun x hx => hb.same (hlt x (by simp [hx]))) (fun x hx => hs x (by simp [hx])), ?_, rfl⟩
    exact trodAll_stays hl hb ts vs' ds' q sp (fun t' h' => ht t' (by simp [h'])) h2 (fun x hx => hlt x (by simp [hx])) (fun x hx => hs x (by simp [hx]))

/-- A law's post. -/
theorem law_post {f : Func} {s : ChangeSpec} {tb : TypeId} {W W' : World} {args : Array Value} {ds gs : List (DataW H)} {before : List MemPlace}
    (hl : laidOutB P = true) (hts : f.params.toList.all (fun t => P.readableRec t && decide (t < P.types.size)) = true) (hr : f.resultTypes = #[tb]) (htb : P.underlying tb = some .bool) (hv : s.vars = [])
    (hfn : (s.fn H (ds ++ gs)).results = [.lit (.bool true)] ∧ (s.fn H (ds ++ gs)).args = ds ∧ (s.fn H (ds ++ gs)).vars = [])
    (hW : DataW.Whole enc P f.params.toList s.vars false W args.toList ds gs before) (hb : Below W.heap.size W W') :
    s.post enc P f false true false false W args (.bool true) W' := by
  have hts' : ∀ t ∈ f.params.toList, P.readableRec t = true ∧ t < P.types.size := fun t ht => by
    have h := List.all_eq_true.1 hts t ht
    simpa using h
  have hlt : ∀ p ∈ before, p.block < W.heap.size := fun p hp => hW.lt p hp
  have hW' := hW
  obtain ⟨p, q, hA, hV, rfl, hfz, hnd⟩ := hW
  rw [hv] at hV
  obtain ⟨rfl, rfl⟩ := trodVars_none hV
  obtain ⟨e1, e2, e3⟩ := hfn
  refine ⟨ds, [], p ++ [], [], p, [], hW', ?_, ?_, ?_, ?_, fun h => by cases h⟩
  · rw [e1, hr]
    exact trodAll_mk1 (shut_bool htb _)
  · rw [e2]
    exact trodAll_stays hl hb _ _ _ _ _ hts' hA (fun x hx => hlt x (by simp [hx])) (fun x hx => by simpa using hlt x (by simp [hx]))
  · rw [e3, hv]
    rfl
  · exact World.keptBut_mono (fun x hx => ⟨hx, by simpa using hx⟩) (hb.frame (· ∈ p ++ []))
end
end Go.Proofs.YtahbfdhjgnlmdaaGreat

/- A law's arguments opened: types that are flat rows of int; what such a value is. -/
namespace Go.Proofs.YtahbfdhjgnlmdaaGreat
open Go.ChangeShapes Go.WideShapes Go.ChangeAt Go.RowKit

section
variable {H : Type} {P : Program}

def In64 (n : Int) : Prop := -9223372036854775808 ≤ n ∧ n ≤ 9223372036854775807
def ivs (ns : List Int) : List Value := ns.map (Value.int .i64)

/-- Type t is a row of k cells, each an int. -/
def Ints (H : Type) (P : Program) (t : TypeId) (k : Nat) : Prop :=
  ∀ (enc : TypeId × Value → H) (w : World) (base : Nat) (spare : Nat → Bool) (held : Bool) (fuel : Nat) (cs : List Value) (x : DataW H × List MemPlace),
    DataW.trod enc P w base spare held fuel t cs = some x → ∃ ns : List Int, ns.length = k ∧ cs = ivs ns ∧ (∀ n ∈ ns, In64 n)

theorem ints_int {t : TypeId} (ht : P.underlying t = some (.int .i64)) : Ints H P t 1 := by
  intro enc w base spare held fuel cs x h
  obtain ⟨n, rfl, _, hw⟩ := DataW.trod_int ht h
  exact ⟨[n], rfl, rfl, fun m hm => by
    obtain rfl := List.mem_singleton.1 hm
    exact bounds_i64 hw⟩

theorem ints_struct2 {t : TypeId} {f0 f1 : Field} {k0 k1 k : Nat} (ht : P.underlying t = some (.struct #[f0, f1])) (h0 : Ints H P f0.type k0) (h1 : Ints H P f1.type k1)
    (o0 : f0.offset = 0) (o1 : f1.offset = k0) (c0 : P.cellsOf f0.type = k0) (c1 : P.cellsOf f1.type = k1) (c : P.cellsOf t = k) (hk : k = k0 + k1) : Ints H P t k := by
  intro enc w base spare held fuel cs x h
  obtain ⟨xs, n, _, _, hl, hlen, hg⟩ := DataW.trod_struct ht h
  have e0 := hg 0 f0 rfl
  have e1 := hg 1 f1 rfl
  rw [List.getElem?_eq_getElem (by rw [hlen]; simp)] at e0 e1
  obtain ⟨n0, l0, q0, w0⟩ := h0 _ _ _ _ _ _ _ _ e0
  obtain ⟨n1, l1, q1, w1⟩ := h1 _ _ _ _ _ _ _ _ e1
  rw [o0, c0, List.drop_zero] at q0
  rw [o1, c1] at q1
  refine ⟨n0 ++ n1, by simp [l0, l1, hk], ?_, fun m hm => ?_⟩
  · have h2 : (cs.drop k0).take k1 = cs.drop k0 := List.take_of_length_le (by rw [List.length_drop]; omega)
    rw [h2] at q1
    rw [← List.take_append_drop k0 cs, q0, q1, ivs, ivs, ivs, List.map_append]
  · rcases List.mem_append.1 hm with hm | hm
    · exact w0 m hm
    · exact w1 m hm

theorem ints_rows {α : Type} (e k : Nat) (p : α → Prop) (f : α → Value) : ∀ (n : Nat) (cs : List Value), cs.length = n * k →
    (∀ i, i < n → ∃ ns : List α, ns.length = k ∧ (cs.drop (i * k)).take k = ns.map f ∧ ∀ m ∈ ns, p m) → ∃ ns : List α, ns.length = n * k ∧ cs = ns.map f ∧ ∀ m ∈ ns, p m
  | 0, cs, hl, _ => ⟨[], by simp, List.eq_nil_of_length_eq_zero (by simpa using hl), fun m hm => by cases hm⟩
  | n + 1, cs, hl, h => by
    obtain ⟨n0, l0, q0, w0⟩ := h 0 (by omega)
    obtain ⟨n1, l1, q1, w1⟩ := ints_rows e k p f n (cs.drop k) (by rw [List.length_drop, hl, Nat.succ_mul]; omega) (fun i hi => by
      have := h (i + 1) (by omega)
      rwa [List.drop_drop, show k + i * k = (i + 1) * k by rw [Nat.succ_mul]; omega])
    rw [Nat.zero_mul, List.drop_zero] at q0
    refine ⟨n0 ++ n1, by rw [List.length_append, l0, l1, Nat.succ_mul]; omega, ?_, fun m hm => ?_⟩
    · rw [← List.take_append_drop k cs, q0, q1, List.map_append]
    · rcases List.mem_append.1 hm with hm | hm
      · exact w0 m hm
      · exact w1 m hm

theorem ints_array {t e : TypeId} {n k m : Nat} (ht : P.underlying t = some (.array n e)) (he : Ints H P e k) (ce : P.cellsOf e = k) (ct : P.cellsOf t = m) (hm : m = n * k) : Ints H P t m := by
  intro enc w base spare held fuel cs x h
  obtain ⟨xs, q, _, _, hl, hlen, hg⟩ := DataW.trod_array ht h
  subst hm
  refine ints_rows 0 k In64 (Value.int .i64) n cs (by omega) fun i hi => ?_
  have h1 := hg i hi
  rw [List.getElem?_eq_getElem (by omega), ce] at h1
  exact he _ _ _ _ _ _ _ _ h1

theorem open_struct_ints {w W : World} {t : TypeId} {fs : Array Field} {k : Nat} {r : Reach} {b0 base : Nat} {enc : TypeId × Value → H} {spare : Nat → Bool} {held : Bool} {v : Value} {d : DataW H} {ps : List MemPlace}
    (hi : Ints H P t k) (ht : P.underlying t = some (.struct fs)) (hv : Value.okWide P w r b0 t v) (hd : DataW.Trod enc P W base spare held t v d ps) :
    ∃ ns : List Int, ns.length = k ∧ v = .agg (ivs ns).toArray ∧ ∀ n ∈ ns, In64 n := by
  simp only [Value.okWide, ht] at hv
  obtain ⟨cs, rfl, _, _⟩ := hv
  obtain ⟨fuel, hf⟩ := hd
  obtain ⟨ns, l, q, wf⟩ := hi _ _ _ _ _ _ _ _ hf
  refine ⟨ns, l, ?_, wf⟩
  simp only [Value.cells] at q
  rw [← q, Array.toArray_toList]

theorem open_array_ints {w W : World} {t e : TypeId} {n k : Nat} {r : Reach} {b0 base : Nat} {enc : TypeId × Value → H} {spare : Nat → Bool} {held : Bool} {v : Value} {d : DataW H} {ps : List MemPlace}
    (hi : Ints H P t k) (ht : P.underlying t = some (.array n e)) (hv : Value.okWide P w r b0 t v) (hd : DataW.Trod enc P W base spare held t v d ps) :
    ∃ ns : List Int, ns.length = k ∧ v = .agg (ivs ns).toArray ∧ ∀ n ∈ ns, In64 n := by
  simp only [Value.okWide, ht] at hv
  obtain ⟨cs, rfl, _, _⟩ := hv
  obtain ⟨fuel, hf⟩ := hd
  obtain ⟨ns, l, q, wf⟩ := hi _ _ _ _ _ _ _ _ hf
  refine ⟨ns, l, ?_, wf⟩
  simp only [Value.cells] at q
  rw [← q, Array.toArray_toList]
end
end Go.Proofs.YtahbfdhjgnlmdaaGreat

/- The laws' types as rows of int; what the row's shutting asks of the program. -/
namespace Go.Proofs.YtahbfdhjgnlmdaaGreat
open Go.ChangeShapes Go.WideShapes Go.ChangeAt Go.RowKit

theorem Tryz.own : ownKnob Tryz.prog.godebug = none := by kernel_rfl
theorem Tryz.laidOut : laidOutB Tryz.prog = true := by kernel_rfl

theorem ints_i (H : Type) : Ints H Tryz.prog 3 1 := ints_int Tryz.underlying3
theorem ints_id (H : Type) : Ints H Tryz.prog 41 2 := ints_struct2 Tryz.underlying41 (ints_i H) (ints_i H) rfl rfl (by kernel_rfl) (by kernel_rfl) (by kernel_rfl) rfl
theorem ints_dart (H : Type) : Ints H Tryz.prog 49 3 := ints_struct2 Tryz.underlying49 (ints_id H) (ints_i H) rfl rfl (by kernel_rfl) (by kernel_rfl) (by kernel_rfl) rfl
end Go.Proofs.YtahbfdhjgnlmdaaGreat

/- A law's slice argument opened: its elements are rows of ints, or bytes. -/
namespace Go.Proofs.YtahbfdhjgnlmdaaGreat
open Go.ChangeShapes Go.WideShapes Go.ChangeAt Go.RowKit Go.Deep

section
variable {H : Type} {P : Program}

/-- Type e is a row of k cells, each of them f of a number that fits. -/
def Rows_ (H : Type) (P : Program) (f : Int → Value) (p : Int → Prop) (t : TypeId) (k : Nat) : Prop :=
  ∀ (enc : TypeId × Value → H) (w : World) (base : Nat) (spare : Nat → Bool) (held : Bool) (fuel : Nat) (cs : List Value) (x : DataW H × List MemPlace),
    DataW.trod enc P w base spare held fuel t cs = some x → ∃ ns : List Int, ns.length = k ∧ cs = ns.map f ∧ (∀ n ∈ ns, p n)

theorem rows_of_ints {t : TypeId} {k : Nat} (h : Ints H P t k) : Rows_ H P (Value.int .i64) In64 t k := h
theorem rows_u8 {t : TypeId} (ht : P.underlying t = some (.int .u8)) : Rows_ H P u8v (fun n => 0 ≤ n ∧ n ≤ 255) t 1 := by
  intro enc w base spare held fuel cs x h
  obtain ⟨n, rfl, _, hw⟩ := DataW.trod_int ht h
  exact ⟨[n], rfl, rfl, fun m hm => by
    obtain rfl := List.mem_singleton.1 hm
    exact bounds_u8 hw⟩

theorem rows_build (f : Int → Value) (p : Int → Prop) (k : Nat) (cell : Nat → Option Value) : ∀ n : Nat,
    (∀ i, i < n → ∃ ns : List Int, ns.length = k ∧ (∀ j u, (ns.map f)[j]? = some u → cell (i * k + j) = some u) ∧ ∀ m ∈ ns, p m) →
    ∃ ns : List Int, ns.length = n * k ∧ (∀ j u, (ns.map f)[j]? = some u → cell j = some u) ∧ ∀ m ∈ ns, p m
  | 0, _ => ⟨[], by simp, fun j u h => (by simp at h), fun m h => (by cases h)⟩
  | n + 1, h => by
    obtain ⟨n0, l0, q0, w0⟩ := rows_build f p k cell n (fun i hi => h i (by omega))
    obtain ⟨n1, l1, q1, w1⟩ := h n (by omega)
    refine ⟨n0 ++ n1, by rw [List.length_append, l0, l1, Nat.succ_mul], fun j u hj => ?_, fun m hm => ?_⟩
    · rw [List.map_append] at hj
      rcases Nat.lt_or_ge j (n * k) with hlt | hge
      · rw [List.getElem?_append_left (by simpa [l0] using hlt)] at hj
        exact q0 j u hj
      · rw [List.getElem?_append_right (by simpa [l0] using hge)] at hj
        have := q1 _ u hj
        rw [List.length_map, l0] at this
        rwa [show n * k + (j - n * k) = j by omega] at this
    · rcases List.mem_append.1 hm with hm | hm
      · exact w0 m hm
      · exact w1 m hm

theorem open_cell_rows {W : World} {t e : TypeId} {k : Nat} {f : Int → Value} {p : Int → Prop} {enc : TypeId × Value → H} {held : Bool} {v : Value} {fuel : Nat} {y : DataW H × List MemPlace}
    (hi : Rows_ H P f p e k) (ht : P.underlying t = some (.slice e)) (hc : P.cellsOf e = k) (hk : 0 < k) (hf : DataW.trod enc P W 0 (fun _ => true) held fuel t [v] = some y) :
    ∃ (A : Option Addr) (n c : Nat) (ns : List Int), v = .slice A n c ∧ c ≤ maxLen ∧ (∀ x ∈ ns, p x) ∧ RdS W W.heap.size k A n c (ns.map f) := by
  rcases open_slice ht hf with ⟨hcs, _⟩ | ⟨a, n, c, m, q, D, Pl, hcs, hb, hl, hm, hmm, hx, hel⟩
  · have hv' : v = .slice none 0 0 := by simpa using hcs
    rw [hv']
    exact ⟨none, 0, 0, [], rfl, Nat.zero_le _, fun x hx => (by cases hx), ⟨by simp, fun _ => ⟨rfl, rfl⟩, Nat.le_refl _, fun a ha => (by cases ha), fun a ha => (by cases ha)⟩⟩
  · have hv' : v = .slice (some a) n c := by simpa using hcs
    rw [hv']
    have hmc : m = c := by simpa using hmm
    clear hmm
    subst m
    have hns : ∃ ns : List Int, ns.length = n * k ∧ (∀ j u, (ns.map f)[j]? = some u → W.cell? (a.add j) = some u) ∧ ∀ m ∈ ns, p m := rows_build f p k (fun j => W.cell? (a.add j)) n (fun i him => by
      obtain ⟨cs', h1, h2⟩ := hel i (by omega)
      obtain ⟨ns, l, rfl, hp⟩ := hi _ _ _ _ _ _ _ _ h2
      rw [hc] at h1
      obtain ⟨_, hln, hat⟩ := World.cells?_some h1
      refine ⟨ns, l, fun j u hu => ?_, hp⟩
      have hj : j < k := by
        rcases Nat.lt_or_ge j k with h3 | h3
        · exact h3
        · rw [List.getElem?_eq_none (by simpa [l] using h3)] at hu
          cases hu
      have := hat j hj
      rw [← add_add, this, hu])
    obtain ⟨ns, hlen, hcell, hp⟩ := hns
    refine ⟨some a, n, c, ns, rfl, hm, hp, ⟨by simpa using hlen, fun e => (by cases e), hl, fun a' ha hn => ?_, fun a' ha j u hu => ?_⟩⟩
    · obtain rfl := Option.some.inj ha
      have h0 : 0 < n * k := Nat.mul_pos hn hk
      have hne : (ns.map f)[0]? = some (f (ns[0]'(by rw [hlen]; exact h0))) := by simp [hlen, h0]
      have := World.block_lt_of_cell? W _ (hcell 0 _ hne)
      simpa [Addr.add] using this
    · obtain rfl := Option.some.inj ha
      exact hcell j u hu
theorem open_slice_rows {W w : World} {t e : TypeId} {k : Nat} {f : Int → Value} {p : Int → Prop} {r : Reach} {b0 : Nat} {enc : TypeId × Value → H} {held : Bool} {v : Value} {d : DataW H} {ps : List MemPlace}
    (hi : Rows_ H P f p e k) (ht : P.underlying t = some (.slice e)) (hc : P.cellsOf e = k) (hk : 0 < k) (hv : Value.okWide P w r b0 t v) (hd : DataW.Trod enc P W 0 (fun _ => true) held t v d ps) :
    ∃ (A : Option Addr) (n c : Nat) (ns : List Int), v = .slice A n c ∧ c ≤ maxLen ∧ (∀ x ∈ ns, p x) ∧ RdS W W.heap.size k A n c (ns.map f) := by
  obtain ⟨A0, n0, c0, rfl⟩ := okWide_slice ht hv
  obtain ⟨fuel, hf⟩ := hd
  exact open_cell_rows hi ht hc hk (y := (d, ps)) (fuel := fuel) hf

theorem names_of_ints : ∀ (n : Nat) (ns : List Int), ns.length = n * 2 → ∃ l : List (Int × Int), ns.map (Value.int .i64) = l.flatMap fun p => [.int .i64 p.1, .int .i64 p.2]
  | 0, ns, h => ⟨[], by rw [List.eq_nil_of_length_eq_zero (l := ns) (by omega)]; rfl⟩
  | n + 1, [], h => by simp at h
  | n + 1, [a], h => by simp at h; omega
  | n + 1, a :: b :: ns, h => by
    obtain ⟨l, hl⟩ := names_of_ints n ns (by simp at h; omega)
    exact ⟨(a, b) :: l, by simp [hl]⟩
end
end Go.Proofs.YtahbfdhjgnlmdaaGreat

/- A law's arguments opened, by the type: ints, bools, texts, slices, structs of these. -/
namespace Go.Proofs.YtahbfdhjgnlmdaaGreat
open Go.ChangeShapes Go.WideShapes Go.ChangeAt Go.RowKit Go.Deep

section
variable {H : Type} {P : Program} {α β : Type}

/-- What reads as data at type t is the cells of some a with p. -/
def Row1 (H : Type) (P : Program) (t : TypeId) (f : α → List Value) (p : World → α → Prop) : Prop :=
  ∀ (enc : TypeId × Value → H) (w : World) (held : Bool) (fuel : Nat) (cs : List Value) (x : DataW H × List MemPlace),
    DataW.trod enc P w 0 (fun _ => true) held fuel t cs = some x → ∃ a, cs = f a ∧ p w a

theorem row1_int {t : TypeId} (ht : P.underlying t = some (.int .i64)) : Row1 H P t (fun n : Int => [.int .i64 n]) (fun _ n => In64 n) := by
  intro enc w held fuel cs x h
  obtain ⟨n, rfl, _, hw⟩ := DataW.trod_int ht h
  exact ⟨n, rfl, bounds_i64 hw⟩
theorem row1_u8 {t : TypeId} (ht : P.underlying t = some (.int .u8)) : Row1 H P t (fun n : Int => [u8v n]) (fun _ n => 0 ≤ n ∧ n ≤ 255) := by
  intro enc w held fuel cs x h
  obtain ⟨n, rfl, _, hw⟩ := DataW.trod_int ht h
  exact ⟨n, rfl, bounds_u8 hw⟩
theorem row1_bool {t : TypeId} (ht : P.underlying t = some .bool) : Row1 H P t (fun b : Bool => [.bool b]) (fun _ _ => True) := by
  intro enc w held fuel cs x h
  cases fuel with
  | zero => simp [DataW.trod] at h
  | succ m =>
    unfold DataW.trod at h
    rw [ht] at h
    split at h <;> simp_all
theorem row1_string {t : TypeId} (ht : P.underlying t = some .string) : Row1 H P t (fun s : ByteArray => [.string s]) (fun _ s => s.size ≤ maxLen) := by
  intro enc w held fuel cs x h
  obtain ⟨s, rfl, _, hs⟩ := DataW.trod_string ht h
  exact ⟨s, rfl, hs⟩
theorem Row1.map {t : TypeId} {f : α → List Value} {p : World → α → Prop} (h : Row1 H P t f p) (g : α → β) {f' : β → List Value} {p' : World → β → Prop} (hf : ∀ a, f a = f' (g a)) (hp : ∀ w a, p w a → p' w (g a)) : Row1 H P t f' p' := by
  intro enc w held fuel cs x hx
  obtain ⟨a, rfl, ha⟩ := h enc w held fuel cs x hx
  exact ⟨g a, hf a, hp w a ha⟩

/-- What the fields from cell off on read as. -/
def Fields_ (H : Type) (P : Program) (fs : List Field) (off m : Nat) (g : α → List Value) (q : World → α → Prop) : Prop :=
  ∀ (enc : TypeId × Value → H) (w : World) (held : Bool) (n : Nat) (cs : List Value),
    (∀ fl ∈ fs, ∃ y, DataW.trod enc P w 0 (fun _ => true) held n fl.type ((cs.drop fl.offset).take (P.cellsOf fl.type)) = some y) → ∃ a, (cs.drop off).take m = g a ∧ q w a
theorem fields_nil (off : Nat) : Fields_ H P [] off 0 (fun _ : Unit => []) (fun _ _ => True) := fun _ _ _ _ cs _ => ⟨(), by simp, trivial⟩
theorem fields_cons {fl : Field} {fs : List Field} {off k m : Nat} {f : α → List Value} {p : World → α → Prop} {g : β → List Value} {q : World → β → Prop}
    (h : Row1 H P fl.type f p) (ho : fl.offset = off) (hc : P.cellsOf fl.type = k) (hr : Fields_ H P fs (off + k) m g q) :
    Fields_ H P (fl :: fs) off (k + m) (fun ab : α × β => f ab.1 ++ g ab.2) (fun w ab => p w ab.1 ∧ q w ab.2) := by
  intro enc w held n cs hall
  obtain ⟨y, hy⟩ := hall fl (by simp)
  obtain ⟨a, ha, pa⟩ := h _ _ _ _ _ _ hy
  obtain ⟨b, hb, qb⟩ := hr enc w held n cs (fun fl' h' => hall fl' (by simp [h']))
  rw [ho, hc] at ha
  refine ⟨(a, b), ?_, pa, qb⟩
  show _ = f a ++ g b
  rw [← ha, ← hb, List.take_add, List.drop_drop]
theorem row1_struct {t : TypeId} {fs : List Field} {m : Nat} {g : α → List Value} {q : World → α → Prop} (ht : P.underlying t = some (.struct fs.toArray)) (hc : P.cellsOf t = m) (h : Fields_ H P fs 0 m g q) : Row1 H P t g q := by
  intro enc w held fuel cs x hx
  obtain ⟨xs, n, _, _, hl, hlen, hg⟩ := DataW.trod_struct ht hx
  obtain ⟨a, ha, qa⟩ := h enc w held n cs (fun fl hfl => by
    obtain ⟨i, hi⟩ := List.getElem?_of_mem hfl
    have h1 := hg i fl (by simpa using hi)
    have hlt : i < xs.length := by
      rw [hlen]
      simpa using (List.getElem?_eq_some_iff.1 hi).1
    exact ⟨xs[i], by rw [h1, List.getElem?_eq_getElem hlt]⟩)
  refine ⟨a, ?_, qa⟩
  rw [← ha, List.drop_zero, List.take_of_length_le (by omega)]

theorem row1_rows {e : TypeId} {k : Nat} {f : α → List Value} {p : World → α → Prop} (hi : Row1 H P e f p) (hc : P.cellsOf e = k) (hk : ∀ a, (f a).length = k) (enc : TypeId × Value → H) (W : World) (held : Bool) (a : Addr) (nn : Nat) :
    ∀ n : Nat, (∀ i, i < n → ∃ cs' D, W.cells? 0 (a.add (i * P.cellsOf e)) (P.cellsOf e) = some cs' ∧ DataW.trod enc P W 0 (fun _ => true) held nn e cs' = some D) →
      ∃ l : List α, l.length = n ∧ (∀ j u, (rowsV f l)[j]? = some u → W.cell? (a.add j) = some u) ∧ ∀ x ∈ l, p W x
  | 0, _ => ⟨[], rfl, fun j u h => (by simp [rowsV] at h), fun x h => (by cases h)⟩
  | n + 1, h => by
    obtain ⟨l, hl, hq, hp⟩ := row1_rows hi hc hk enc W held a nn n (fun i hi => h i (by omega))
    obtain ⟨cs', D, h1, h2⟩ := h n (by omega)
    obtain ⟨x, rfl, hx⟩ := hi _ _ _ _ _ _ h2
    rw [hc] at h1
    obtain ⟨_, hln, hat⟩ := World.cells?_some h1
    have hlen : (rowsV f l).length = n * k := by rw [rowsV_length f hk, hl]
    refine ⟨l ++ [x], by simp [hl], fun j u hj => ?_, fun y hy => ?_⟩
    · rw [rowsV_app] at hj
      rcases Nat.lt_or_ge j (n * k) with hlt | hge
      · rw [List.getElem?_append_left (by omega)] at hj
        exact hq j u hj
      · rw [List.getElem?_append_right (by omega), hlen] at hj
        simp only [rowsV, List.append_nil] at hj
        have hjk : j - n * k < k := by
          rcases Nat.lt_or_ge (j - n * k) k with h3 | h3
          · exact h3
          · rw [List.getElem?_eq_none (by rw [hk]; exact h3)] at hj
            cases hj
        have h4 := hat (j - n * k) hjk
        rw [hj, add_add, show n * k + (j - n * k) = j by omega] at h4
        exact h4
    · rcases List.mem_append.1 hy with hy | hy
      · exact hp y hy
      · obtain rfl := List.mem_singleton.1 hy
        exact hx

/-- What a slice reads as. -/
def SlOk (k : Nat) (f : α → List Value) (p : World → α → Prop) (w : World) (s : Option Addr × Nat × Nat × List α) : Prop :=
  s.2.2.1 ≤ maxLen ∧ RdS w w.heap.size k s.1 s.2.1 s.2.2.1 (rowsV f s.2.2.2) ∧ ∀ x ∈ s.2.2.2, p w x
def slCells (s : Option Addr × Nat × Nat × List α) : List Value := [.slice s.1 s.2.1 s.2.2.1]
theorem row1_slice {t e : TypeId} {k : Nat} {f : α → List Value} {p : World → α → Prop} (hi : Row1 H P e f p) (ht : P.underlying t = some (.slice e)) (hc : P.cellsOf e = k) (hk : ∀ a, (f a).length = k) (h0 : 0 < k) :
    Row1 H P t (slCells (α := α)) (SlOk k f p) := by
  intro enc W held fuel cs x hf
  rcases open_slice ht hf with ⟨rfl, _⟩ | ⟨a, n, c, m, q, D, Pl, rfl, hb, hl, hm, hmm, hx, hel⟩
  · exact ⟨(none, 0, 0, []), rfl, Nat.zero_le _, ⟨by simp [rowsV], fun _ => ⟨rfl, rfl⟩, Nat.le_refl _, fun a ha => (by cases ha), fun a ha => (by cases ha)⟩, fun x hx => (by cases hx)⟩
  · have hmc : m = c := by simpa using hmm
    clear hmm
    subst m
    obtain ⟨l, hlen, hcell, hp⟩ := row1_rows hi hc hk enc W held a q n (fun i him => by
      obtain ⟨cs', h1, h2⟩ := hel i (by omega)
      exact ⟨cs', _, h1, h2⟩)
    refine ⟨(some a, n, c, l), rfl, hm, ⟨by rw [rowsV_length f hk, hlen], fun e => (by cases e), hl, fun a' ha hn => ?_, fun a' ha j u hu => ?_⟩, hp⟩
    · obtain rfl := Option.some.inj ha
      have h0' : 0 < (rowsV f l).length := by rw [rowsV_length f hk, hlen]; exact Nat.mul_pos hn h0
      have := World.block_lt_of_cell? W _ (hcell 0 _ (List.getElem?_eq_getElem h0'))
      simpa [Addr.add] using this
    · obtain rfl := Option.some.inj ha
      exact hcell j u hu

theorem open_row1_struct {w W : World} {t : TypeId} {fs : Array Field} {f : α → List Value} {p : World → α → Prop} {r : Reach} {b0 : Nat} {enc : TypeId × Value → H} {held : Bool} {v : Value} {d : DataW H} {ps : List MemPlace}
    (hi : Row1 H P t f p) (ht : P.underlying t = some (.struct fs)) (hv : Value.okWide P w r b0 t v) (hd : DataW.Trod enc P W 0 (fun _ => true) held t v d ps) :
    ∃ a, v = .agg (f a).toArray ∧ p W a := by
  simp only [Value.okWide, ht] at hv
  obtain ⟨cs, rfl, _, _⟩ := hv
  obtain ⟨fuel, hf⟩ := hd
  obtain ⟨a, q, ha⟩ := hi _ _ _ _ _ _ hf
  refine ⟨a, ?_, ha⟩
  simp only [Value.cells] at q
  rw [← q, Array.toArray_toList]
theorem open_row1_slice {w W : World} {t e : TypeId} {k : Nat} {f : α → List Value} {p : World → α → Prop} {r : Reach} {b0 : Nat} {enc : TypeId × Value → H} {held : Bool} {v : Value} {d : DataW H} {ps : List MemPlace}
    (hi : Row1 H P e f p) (ht : P.underlying t = some (.slice e)) (hc : P.cellsOf e = k) (hk : ∀ a, (f a).length = k) (h0 : 0 < k)
    (hv : Value.okWide P w r b0 t v) (hd : DataW.Trod enc P W 0 (fun _ => true) held t v d ps) :
    ∃ s : Option Addr × Nat × Nat × List α, v = .slice s.1 s.2.1 s.2.2.1 ∧ SlOk k f p W s := by
  obtain ⟨A0, n0, c0, rfl⟩ := okWide_slice ht hv
  obtain ⟨fuel, hf⟩ := hd
  obtain ⟨s, q, hs⟩ := row1_slice hi ht hc hk h0 _ _ _ _ _ _ hf
  refine ⟨s, ?_, hs⟩
  simpa [Value.cells, slCells] using q
end
end Go.Proofs.YtahbfdhjgnlmdaaGreat

/- Numbers and texts as bytes; names as bytes: numbers alone. -/
namespace Go.Proofs.YtahbfdhjgnlmdaaGreat
open Go.RowKit
set_option linter.unusedSimpArgs false
set_option linter.unusedVariables false

/-- The last k bytes of a number, the highest first. -/
def beN : Nat → Nat → List Nat
  | 0, _ => []
  | k + 1, u => beN k (u / 256) ++ [u % 256]
theorem beN_len : ∀ (k u : Nat), (beN k u).length = k
  | 0, _ => rfl
  | k + 1, u => by rw [beN, List.length_append, beN_len k]; rfl
theorem beN_lt : ∀ (k u : Nat), ∀ b ∈ beN k u, b < 256
  | 0, _, b, hb => (by cases hb)
  | k + 1, u, b, hb => by
    rw [beN] at hb
    rcases List.mem_append.1 hb with h | h
    · exact beN_lt k _ b h
    · rw [List.mem_singleton.1 h]; omega
/-- A number out of bytes. -/
def deN (L : List Nat) : Nat := L.foldl (fun u c => u * 256 + c) 0
theorem deN_snoc (L : List Nat) (c : Nat) : deN (L ++ [c]) = deN L * 256 + c := by simp [deN, List.foldl_append]
theorem deN_beN : ∀ (k u : Nat), deN (beN k u) = u % 256 ^ k
  | 0, u => by simp [beN, deN, Nat.mod_one]
  | k + 1, u => by
    rw [beN, deN_snoc, deN_beN k, Nat.pow_succ, Nat.mul_comm (256 ^ k) 256, Nat.mod_mul]
    omega
theorem deN_lt {L : List Nat} (h : ∀ b ∈ L, b < 256) : ∀ k, k ≤ L.length → deN (L.take k) < 256 ^ k
  | 0, _ => by simp [deN]
  | k + 1, hk => by
    have h1 := deN_lt h k (by omega)
    have h2 := h L[k] (List.getElem_mem (by omega))
    rw [List.take_succ_eq_append_getElem (by omega), deN_snoc, Nat.pow_succ]
    omega
/-- A whole number as it lies in eight bytes. -/
def u64 (x : Int) : Nat := (x % 18446744073709551616).toNat
def be8 (x : Int) : List Nat := beN 8 (u64 x)
/-- The number in eight bytes. -/
def num8 (L : List Nat) : Int := IntKind.i64.wrap (deN L : Int)
theorem be8_len (x : Int) : (be8 x).length = 8 := beN_len 8 _
theorem be8_lt (x : Int) : ∀ b ∈ be8 x, b < 256 := beN_lt 8 _
theorem u64_lt (x : Int) : u64 x < 18446744073709551616 := by unfold u64; omega
theorem wrap_u64 (x : Int) (h : In64 x) : IntKind.i64.wrap (u64 x : Int) = x := by
  obtain ⟨h1, h2⟩ := h
  have e : (u64 x : Int) = x % 18446744073709551616 := by unfold u64; omega
  rw [e]
  by_cases h0 : 0 ≤ x
  · rw [Int.emod_eq_of_lt h0 (by omega)]; exact IntWalk.i64_in _ (by omega)
  · rw [show x % 18446744073709551616 = x + 18446744073709551616 by omega]
    rw [IntKind.wrap_i64]
    omega
theorem num8_be8 (x : Int) (h : In64 x) : num8 (be8 x) = x := by
  unfold num8 be8
  rw [deN_beN, Nat.mod_eq_of_lt (by have := u64_lt x; omega), wrap_u64 x h]
/-- A text's bytes. -/
def tB (s : ByteArray) : List Nat := s.toList.map UInt8.toNat
theorem tB_len (s : ByteArray) : (tB s).length = s.size := by simp [tB, ByteArray.toList_eq]
theorem tB_lt (s : ByteArray) : ∀ b ∈ tB s, b < 256 := by
  intro b hb
  obtain ⟨c, -, rfl⟩ := List.mem_map.1 hb
  exact c.toNat_lt
theorem txt_tB (s : ByteArray) : txt (tB s) = s := by
  have h : (txt (tB s)).toList = s.toList := by
    rw [txt_list, tB, List.map_map]
    conv => rhs; rw [← List.map_id s.toList]
    exact List.map_congr_left fun c _ => by simp
  rw [ByteArray.toList_eq, ByteArray.toList_eq] at h
  exact ByteArray.ext (Array.toList_inj.1 h)
/-- A text with its length. -/
def textB (s : ByteArray) : List Nat := [s.size % 256] ++ tB s
theorem textB_lt (s : ByteArray) : ∀ b ∈ textB s, b < 256 := by
  intro b hb
  rcases List.mem_append.1 hb with h | h
  · rw [List.mem_singleton.1 h]; omega
  · exact tB_lt s b h
/-- A name's four bytes. -/
def idB (x : Int × Int) : List Nat := [(x.1 % 256).toNat, (x.2 / 65536 % 256).toNat, (x.2 / 256 % 256).toNat, (x.2 % 256).toNat]
theorem idB_lt (x : Int × Int) : ∀ b ∈ idB x, b < 256 := by
  intro b hb
  simp only [idB, List.mem_cons, List.not_mem_nil, or_false] at hb
  rcases hb with rfl | rfl | rfl | rfl <;> omega

/-- The next byte. -/
def c1 (L : List Nat) : Nat := L.headD 0
end Go.Proofs.YtahbfdhjgnlmdaaGreat

/- Rings as lists of darts: turned to their least, searched, changed. No program stands in this text but the cells. -/
namespace Go.Proofs.YtahbfdhjgnlmdaaGreat
open Go.RowKit

abbrev D := Int × Int × Int
def ordT (a b : D) : Int := ordD a.1 a.2.1 a.2.2 b.1 b.2.1 b.2.2
/-- The cells of a list of darts. -/
def dartsV : List D → List Value
  | [] => []
  | d :: l => .int .i64 d.1 :: .int .i64 d.2.1 :: .int .i64 d.2.2 :: dartsV l
theorem dartsV_length (l : List D) : (dartsV l).length = l.length * 3 := by
  induction l with
  | nil => rfl
  | cons p l ih => simp [dartsV, ih]; omega
theorem dartsV_app (l m : List D) : dartsV (l ++ m) = dartsV l ++ dartsV m := by
  induction l with
  | nil => rfl
  | cons p l ih => simp [dartsV, ih]
theorem dartsV_take (l : List D) (k : Nat) : dartsV (l.take k) = (dartsV l).take (k * 3) := by
  induction l generalizing k with
  | nil => simp [dartsV]
  | cons p l ih =>
    cases k with
    | zero => simp [dartsV]
    | succ k =>
      rw [show (k + 1) * 3 = k * 3 + 3 by omega]
      simp [dartsV, ih]
theorem dartsV_drop (l : List D) (k : Nat) : dartsV (l.drop k) = (dartsV l).drop (k * 3) := by
  induction l generalizing k with
  | nil => simp [dartsV]
  | cons p l ih =>
    cases k with
    | zero => simp [dartsV]
    | succ k =>
      rw [show (k + 1) * 3 = k * 3 + 3 by omega]
      simp [dartsV, ih]
theorem dartsV_get (l : List D) (k : Nat) (h : k < l.length) : (dartsV l)[k * 3]? = some (.int .i64 (l.getD k (0, 0, 0)).1) ∧ (dartsV l)[k * 3 + 1]? = some (.int .i64 (l.getD k (0, 0, 0)).2.1) ∧ (dartsV l)[k * 3 + 2]? = some (.int .i64 (l.getD k (0, 0, 0)).2.2) := by
  induction l generalizing k with
  | nil => simp at h
  | cons p l ih =>
    cases k with
    | zero => simp [dartsV]
    | succ k =>
      have := ih k (by simpa using h)
      have e1 : (k + 1) * 3 = k * 3 + 3 := by omega
      have e2 : (k + 1) * 3 + 1 = k * 3 + 1 + 3 := by omega
      have e3 : (k + 1) * 3 + 2 = k * 3 + 2 + 3 := by omega
      rw [e2, e3, e1]
      simpa [dartsV] using this
theorem dartsV_one (l : List D) : ∀ u ∈ dartsV l, u.oneCell' = true := by
  induction l with
  | nil => simp [dartsV]
  | cons p l ih =>
    intro u hu
    simp only [dartsV, List.mem_cons] at hu
    rcases hu with rfl | rfl | rfl | hu
    · rfl
    · rfl
    · rfl
    · exact ih u hu

/-- The cells of a slice of darts, as the walk spells them. -/
theorem RdS.darts {w : World} {B n c : Nat} {A : Option Addr} {l : List D} (h : RdS w B 3 A n c (dartsV l)) (hn : 0 < n) :
    ∃ b off, A = some ⟨b, off, none⟩ ∧ b < B ∧ ∀ k, k < l.length → w.cell? ⟨b, off + k * 3, none⟩ = some (.int .i64 (l.getD k (0, 0, 0)).1) ∧ w.cell? ⟨b, off + k * 3 + 1, none⟩ = some (.int .i64 (l.getD k (0, 0, 0)).2.1) ∧ w.cell? ⟨b, off + k * 3 + 2, none⟩ = some (.int .i64 (l.getD k (0, 0, 0)).2.2) := by
  have hl : l.length = n := by
    have := h.len
    rw [dartsV_length] at this
    omega
  cases A with
  | none => exact absurd (h.none_ rfl).1 (by omega)
  | some a =>
    have h0 := h.cell a rfl 0 _ (dartsV_get l 0 (by omega)).1
    have ha : ∃ b off, a = ⟨b, off, none⟩ := by
      obtain ⟨b, off, f⟩ := a
      cases f with
      | none => exact ⟨b, off, rfl⟩
      | some f =>
        simp [Addr.add, World.cell?] at h0
        split at h0 <;> cases h0
    obtain ⟨b, off, rfl⟩ := ha
    refine ⟨b, off, rfl, h.low _ rfl hn, fun k hk => ?_⟩
    obtain ⟨g1, g2, g3⟩ := dartsV_get l k hk
    have e1 := h.cell _ rfl _ _ g1
    have e2 := h.cell _ rfl _ _ g2
    have e3 := h.cell _ rfl _ _ g3
    rw [Addr.add_lit] at e1 e2 e3
    exact ⟨e1, e2, e3⟩
theorem RdS.dlen {w : World} {B n c : Nat} {A : Option Addr} {l : List D} (h : RdS w B 3 A n c (dartsV l)) : l.length = n := by
  have := h.len
  rw [dartsV_length] at this
  omega

/-- A piece of a slice. -/
theorem RdS.piece {w : World} {B n c lo hi cap : Nat} {A : Option Addr} {l : List D} (h : RdS w B 3 A n c (dartsV l)) (h1 : lo ≤ hi) (h2 : hi ≤ n) (h3 : hi ≤ cap) (h4 : cap ≤ c) :
    RdS w B 3 (if cap = lo then A else A.map (·.add (lo * 3))) (hi - lo) (cap - lo) (dartsV ((l.take hi).drop lo)) := by
  have hl := h.dlen
  refine ⟨?_, ?_, by omega, ?_, ?_⟩
  · rw [dartsV_length]
    simp
    omega
  · intro e
    cases A with
    | none =>
      have := h.none_ rfl
      omega
    | some a => split at e <;> cases e
  · intro a ha hlt
    rw [if_neg (by omega)] at ha
    cases A with
    | none => cases ha
    | some a' =>
      obtain rfl := Option.some.inj ha
      show (Addr.add a' (lo * 3)).block < B
      rw [add_block]
      exact h.low a' rfl (by omega)
  · intro a ha j u hu
    have hj : j < (dartsV ((l.take hi).drop lo)).length := by
      rcases Nat.lt_or_ge j (dartsV ((l.take hi).drop lo)).length with h | h
      · exact h
      · rw [List.getElem?_eq_none h] at hu
        cases hu
    rw [dartsV_length] at hj
    simp at hj
    rw [if_neg (by omega)] at ha
    cases A with
    | none => cases ha
    | some a' =>
      obtain rfl := Option.some.inj ha
      rw [dartsV_drop, dartsV_take, List.getElem?_drop, List.getElem?_take] at hu
      split at hu
      · have := h.cell a' rfl _ u hu
        rw [← this]
        congr 1
        show (Addr.add a' (lo * 3)).add j = a'.add (lo * 3 + j)
        unfold Addr.add
        by_cases hi : lo * 3 = 0 <;> by_cases hj : j = 0 <;> simp [hi, hj, Nat.add_assoc]
        all_goals omega
      · cases hu

/-- The place of the least of the first k darts, the first one of these. -/
def leastI (L : List D) : Nat → Nat
  | 0 => 0
  | k + 1 => if ordT (L.getD k (0, 0, 0)) (L.getD (leastI L k) (0, 0, 0)) < 0 then k else leastI L k
theorem leastI_lt (L : List D) (k : Nat) (h : 0 < k) : leastI L k < k := by
  induction k with
  | zero => omega
  | succ k ih =>
    simp only [leastI]
    split
    · omega
    · rcases Nat.eq_zero_or_pos k with h0 | h0
      · subst h0
        simp [leastI]
      · have := ih h0
        omega
theorem leastI_le (L : List D) (k : Nat) : leastI L k ≤ k := by
  rcases Nat.eq_zero_or_pos k with h | h
  · subst h
    simp [leastI]
  · exact Nat.le_of_lt (leastI_lt L k h)
def turnD (L : List D) : List D := L.drop (leastI L L.length) ++ L.take (leastI L L.length)

/-- The place of a dart, -1 if it is not there. -/
def idxD (L : List D) (d : D) : Int := if d ∈ L then (L.idxOf d : Int) else -1
end Go.Proofs.YtahbfdhjgnlmdaaGreat

/- Darts searched and compared: the contracts of slices.Index, slices.Equal, ring.Index, and of the document's Index and Darts. -/
namespace Go.Proofs.YtahbfdhjgnlmdaaGreat
open Go.RowKit
set_option linter.unusedSimpArgs false

theorem eq_dart_run (x y : D) (W : World) : (binOp .eql 49 (.agg #[.int .i64 x.1, .int .i64 x.2.1, .int .i64 x.2.2]) (.agg #[.int .i64 y.1, .int .i64 y.2.1, .int .i64 y.2.2])).run Tryz.prog W = .ok (.bool (decide (x = y))) W := by
  rw [eq_dart]
  congr 2
  rw [Bool.eq_iff_iff]
  obtain ⟨x1, x2, x3⟩ := x
  obtain ⟨y1, y2, y3⟩ := y
  simp [and_assoc]
theorem neq_dart_run (x y : D) (W : World) : (binOp .neq 49 (.agg #[.int .i64 x.1, .int .i64 x.2.1, .int .i64 x.2.2]) (.agg #[.int .i64 y.1, .int .i64 y.2.1, .int .i64 y.2.2])).run Tryz.prog W = .ok (.bool (!decide (x = y))) W := by
  obtain ⟨x1, x2, x3⟩ := x
  obtain ⟨y1, y2, y3⟩ := y
  by_cases h1 : x1 = y1 <;> by_cases h2 : x2 = y2 <;> by_cases h3 : x3 = y3 <;> simp [go_sem, h1, h2, h3]

theorem idxOf_le (L : List D) (d : D) (k : Nat) (h : L.getD k (0, 0, 0) = d) (hk : k < L.length) : L.idxOf d ≤ k := by
  induction L generalizing k with
  | nil => simp at hk
  | cons x L ih =>
    rw [List.idxOf_cons]
    by_cases e : x = d
    · have hb : (x == d) = true := by rw [beq_iff_eq]; exact e
      rw [hb]
      exact Nat.zero_le _
    · have hb : (x == d) = false := by rw [beq_eq_false_iff_ne]; exact e
      rw [hb]
      cases k with
      | zero => exact absurd (by simpa using h) e
      | succ k =>
        have := ih k (by simpa using h) (by simpa using hk)
        show L.idxOf d + 1 ≤ k + 1
        omega
theorem idxD_at {L : List D} {d : D} {k : Nat} (hk : k < L.length) (he : L.getD k (0, 0, 0) = d) (hn : ∀ j, j < k → L.getD j (0, 0, 0) ≠ d) : idxD L d = k := by
  have hm : d ∈ L := by
    rw [← he, List.getD_eq_getElem?_getD, List.getElem?_eq_getElem hk]
    exact List.getElem_mem hk
  have hi : L.idxOf d < L.length := List.idxOf_lt_length_of_mem hm
  have hg : L[L.idxOf d] = d := List.getElem_idxOf hi
  rw [idxD, if_pos hm]
  have h1 : ¬ L.idxOf d < k := fun h => hn _ h (by rw [List.getD_eq_getElem?_getD, List.getElem?_eq_getElem hi]; exact hg)
  have h2 : ¬ k < L.idxOf d := fun h => by
    have h3 := idxOf_le L d k he hk
    omega
  omega
theorem idxD_not {L : List D} {d : D} (hn : ∀ j, j < L.length → L.getD j (0, 0, 0) ≠ d) : idxD L d = -1 := by
  rw [idxD, if_neg]
  intro hm
  have hi : L.idxOf d < L.length := List.idxOf_lt_length_of_mem hm
  exact hn _ hi (by rw [List.getD_eq_getElem?_getD, List.getElem?_eq_getElem hi]; exact List.getElem_idxOf hi)

/-- What holds at each round of Index. -/
def IdxAt (w : World) (L : List D) (d : D) (k : Nat) (x : World) : Prop :=
  (∀ j, j < k → L.getD j (0, 0, 0) ≠ d) ∧ Whole x w.heap.size 49 [.int .i64 d.1, .int .i64 d.2.1, .int .i64 d.2.2] ∧ Below w.heap.size w x

/-- What holds at each round of a comparison. -/
def EqAt (w : World) (L M : List D) (k : Nat) (x : World) : Prop := L.take k = M.take k ∧ Below w.heap.size w x

theorem take_eq_snocD {L M : List D} {k : Nat} (hl : L.length = M.length) (hk : k < L.length) (h : L.take k = M.take k) : L.take (k + 1) = M.take (k + 1) ↔ L.getD k (0, 0, 0) = M.getD k (0, 0, 0) := by
  have hk' : k < M.length := by omega
  rw [List.take_succ_eq_append_getElem hk, List.take_succ_eq_append_getElem hk', h, List.append_right_inj]
  simp [hk, hk']


set_option maxHeartbeats 400000 in
theorem sequal_any (A A' : Option Addr) (n m c c' : Nat) (L M : List D) (w : World) (h : RdS w w.heap.size 3 A n c (dartsV L)) (h' : RdS w w.heap.size 3 A' m c' (dartsV M)) (hn : n ≤ 9223372036854775807) :
    Calls Tryz.prog 69 #[.slice A n c, .slice A' m c'] w fun e w' => e = .returned (.bool (decide (L = M))) ∧ Below w.heap.size w w' := by
  have hl := h.dlen
  have hm := h'.dlen
  by_cases he : n = m
  · subst he
    have HL := Lib.hid hl
    have HM := Lib.hid hm
    have H := Lib.hid h
    have H' := Lib.hid h'
    have hnn : ((n : Int) != (n : Int)) = false := by simp
    clear h h' hl hm
    go_enter Tryz.func69, Tryz.ntmps69
    go_wp2
    go_loopw [13] (fun i wr => ∃ k : Nat, k ≤ n ∧ i = .int .i64 k ∧ EqAt w L M k wr) (fun i _ => n - (intOf i).toNat)
    case atStart => exact ⟨0, Nat.zero_le _, rfl, rfl, Below.refl _ _⟩
    case round =>
      obtain ⟨k, hk, rfl, he, hbw⟩ := hrel
      have HE := Lib.hid he
      have HB := Lib.hid hbw
      clear he
      by_cases hlt : k < n
      · obtain ⟨b, off, rfl, hb, hc⟩ := H.out.darts (by omega)
        obtain ⟨b', off', rfl, hb', hc'⟩ := H'.out.darts (by omega)
        obtain ⟨c1, c2, c3⟩ := hc k (by rw [HL.out]; exact hlt)
        obtain ⟨e1, e2, e3⟩ := hc' k (by rw [HM.out]; exact hlt)
        have d1 := (hbw.cell (p := ⟨b, off + k * 3, none⟩) hb).trans c1
        have d2 := (hbw.cell (p := ⟨b, off + k * 3 + 1, none⟩) hb).trans c2
        have d3 := (hbw.cell (p := ⟨b, off + k * 3 + 2, none⟩) hb).trans c3
        have f1 := (hbw.cell (p := ⟨b', off' + k * 3, none⟩) hb').trans e1
        have f2 := (hbw.cell (p := ⟨b', off' + k * 3 + 1, none⟩) hb').trans e2
        have f3 := (hbw.cell (p := ⟨b', off' + k * 3 + 2, none⟩) hb').trans e3
        obtain ⟨x, gx⟩ : ∃ v, L.getD k (0, 0, 0) = v := ⟨_, rfl⟩
        obtain ⟨y, gy⟩ : ∃ v, M.getD k (0, 0, 0) = v := ⟨_, rfl⟩
        rw [gx] at d1 d2 d3
        rw [gy] at f1 f2 f3
        have GX := Lib.hid gx
        have GY := Lib.hid gy
        have HT := Lib.hid (take_eq_snocD (by rw [HL.out, HM.out]) (by rw [HL.out]; exact hlt) HE.out)
        have hq := neq_dart_run x y
        clear hc hc' c1 c2 c3 e1 e2 e3 gx gy hbw
        by_cases hd : x = y
        · have hd' : (!decide (x = y)) = false := by simpa using hd
          rw [hd'] at hq
          have HD := Lib.hid hd
          clear hd hd'
          go_wp2
          go_quiet (fail)
          go_wp2
          go_roundw
          case rel => exact ⟨k + 1, by omega, by go_num, HT.out.2 (by rw [GX.out, GY.out, HD.out]), ⟨HB.out.os, HB.out.tape, HB.out.output, HB.out.size, HB.out.block⟩⟩
          case measure => simp [intOf]; omega
        · have hd' : (!decide (x = y)) = true := by simpa using hd
          rw [hd'] at hq
          have HD := Lib.hid hd
          clear hd hd'
          go_wp2
          go_quiet (fail)
          go_wp2
          go_ret
          refine ⟨?_, ⟨HB.out.os, HB.out.tape, HB.out.output, HB.out.size, HB.out.block⟩⟩
          have hne : decide (L = M) = false := by
            simp only [decide_eq_false_iff_not]
            rintro rfl
            exact HD.out (by rw [← GX.out, ← GY.out])
          rw [hne]
          rfl
      · go_wp2
        go_ret
        refine ⟨?_, HB.out⟩
        have hee : decide (L = M) = true := by
          simp only [decide_eq_true_eq]
          have h1 := HE.out
          rwa [List.take_of_length_le (by rw [HL.out]; omega), List.take_of_length_le (by rw [HM.out]; omega)] at h1
        rw [hee]
        rfl
  · have e : decide (L = M) = false := by
      simp only [decide_eq_false_iff_not]
      rintro rfl
      omega
    rw [e]
    have h1 : ((n : Int) != (m : Int)) = true := by simp; omega
    clear h h' hl hm e he
    go_enter Tryz.func69, Tryz.ntmps69
    go_wp2
    go_ret
    exact ⟨rfl, Below.refl _ _⟩

set_option maxHeartbeats 400000 in
theorem rdarts_any (A A' : Option Addr) (n m c c' : Nat) (L M : List D) (w : World) (h : RdS w w.heap.size 3 A n c (dartsV L)) (h' : RdS w w.heap.size 3 A' m c' (dartsV M)) (hn : n ≤ 9223372036854775807) :
    Calls Tryz.prog 23 #[.slice A n c, .slice A' m c'] w fun e w' => e = .returned (.bool (decide (L = M))) ∧ Below w.heap.size w w' := by
  have hl := h.dlen
  have hm := h'.dlen
  by_cases he : n = m
  · subst he
    have HL := Lib.hid hl
    have HM := Lib.hid hm
    have H := Lib.hid h
    have H' := Lib.hid h'
    have hnn : ((n : Int) != (n : Int)) = false := by simp
    clear h h' hl hm
    go_enter Tryz.func23, Tryz.ntmps23
    go_wp2
    go_loopw [5] (fun i wr => ∃ k : Nat, k ≤ n ∧ i = .int .i64 k ∧ EqAt w L M k wr) (fun i _ => n - (intOf i).toNat)
    case atStart => exact ⟨0, Nat.zero_le _, rfl, rfl, Below.refl _ _⟩
    case round =>
      obtain ⟨k, hk, rfl, he, hbw⟩ := hrel
      have HE := Lib.hid he
      have HB := Lib.hid hbw
      clear he
      by_cases hlt : k < n
      · obtain ⟨b, off, rfl, hb, hc⟩ := H.out.darts (by omega)
        obtain ⟨b', off', rfl, hb', hc'⟩ := H'.out.darts (by omega)
        obtain ⟨c1, c2, c3⟩ := hc k (by rw [HL.out]; exact hlt)
        obtain ⟨e1, e2, e3⟩ := hc' k (by rw [HM.out]; exact hlt)
        have d1 := (hbw.cell (p := ⟨b, off + k * 3, none⟩) hb).trans c1
        have d2 := (hbw.cell (p := ⟨b, off + k * 3 + 1, none⟩) hb).trans c2
        have d3 := (hbw.cell (p := ⟨b, off + k * 3 + 2, none⟩) hb).trans c3
        have f1 := (hbw.cell (p := ⟨b', off' + k * 3, none⟩) hb').trans e1
        have f2 := (hbw.cell (p := ⟨b', off' + k * 3 + 1, none⟩) hb').trans e2
        have f3 := (hbw.cell (p := ⟨b', off' + k * 3 + 2, none⟩) hb').trans e3
        obtain ⟨x, gx⟩ : ∃ v, L.getD k (0, 0, 0) = v := ⟨_, rfl⟩
        obtain ⟨y, gy⟩ : ∃ v, M.getD k (0, 0, 0) = v := ⟨_, rfl⟩
        rw [gx] at d1 d2 d3
        rw [gy] at f1 f2 f3
        have GX := Lib.hid gx
        have GY := Lib.hid gy
        have HT := Lib.hid (take_eq_snocD (by rw [HL.out, HM.out]) (by rw [HL.out]; exact hlt) HE.out)
        have hq := neq_dart_run x y
        clear hc hc' c1 c2 c3 e1 e2 e3 gx gy hbw
        by_cases hd : x = y
        · have hd' : (!decide (x = y)) = false := by simpa using hd
          rw [hd'] at hq
          have HD := Lib.hid hd
          clear hd hd'
          go_wp2
          go_quiet (fail)
          go_wp2
          go_roundw
          case rel => exact ⟨k + 1, by omega, by go_num, HT.out.2 (by rw [GX.out, GY.out, HD.out]), ⟨HB.out.os, HB.out.tape, HB.out.output, HB.out.size, HB.out.block⟩⟩
          case measure => simp [intOf]; omega
        · have hd' : (!decide (x = y)) = true := by simpa using hd
          rw [hd'] at hq
          have HD := Lib.hid hd
          clear hd hd'
          go_wp2
          go_quiet (fail)
          go_wp2
          go_ret
          refine ⟨?_, ⟨HB.out.os, HB.out.tape, HB.out.output, HB.out.size, HB.out.block⟩⟩
          have hne : decide (L = M) = false := by
            simp only [decide_eq_false_iff_not]
            rintro rfl
            exact HD.out (by rw [← GX.out, ← GY.out])
          rw [hne]
          rfl
      · go_wp2
        go_ret
        refine ⟨?_, HB.out⟩
        have hee : decide (L = M) = true := by
          simp only [decide_eq_true_eq]
          have h1 := HE.out
          rwa [List.take_of_length_le (by rw [HL.out]; omega), List.take_of_length_le (by rw [HM.out]; omega)] at h1
        rw [hee]
        rfl
  · have e : decide (L = M) = false := by
      simp only [decide_eq_false_iff_not]
      rintro rfl
      omega
    rw [e]
    have h1 : ((n : Int) != (m : Int)) = true := by simp; omega
    clear h h' hl hm e he
    go_enter Tryz.func23, Tryz.ntmps23
    go_wp2
    go_ret
    exact ⟨rfl, Below.refl _ _⟩
end Go.Proofs.YtahbfdhjgnlmdaaGreat

/- Rings turned to their least: the contract of ring.turned. -/
namespace Go.Proofs.YtahbfdhjgnlmdaaGreat
open Go.RowKit
set_option linter.unusedSimpArgs false

theorem info_dart : (Tryz.prog.info? 49).map (fun i => (i.zero, i.size, i.bytes)) = some (some (.agg #[.int .i64 0, .int .i64 0, .int .i64 0]), 3, 24) := by kernel_rfl

/-- A call that answers a slice that reads as these darts, and leaves all that was there as it was. -/
def GivesR (w : World) (L : List D) (e : Ending) (w' : World) : Prop :=
  ∃ A c, e = .returned (.slice A L.length c) ∧ RdS w' w'.heap.size 3 A L.length c (dartsV L) ∧ Below w.heap.size w w'

/-- The parts of a ring, as they lie in a slice of slices. -/
structure Parts (w : World) (A : Option Addr) (n : Nat) (Ps : List (List D)) : Prop where
  len : Ps.length = n
  part : ∀ k, k < n → ∃ b off A' c', A = some ⟨b, off, none⟩ ∧ b < w.heap.size ∧ w.cell? ⟨b, off + k, none⟩ = some (.slice A' (Ps.getD k []).length c') ∧ RdS w w.heap.size 3 A' (Ps.getD k []).length c' (dartsV (Ps.getD k []))
theorem Parts.up {w w' : World} {A : Option Addr} {n : Nat} {Ps : List (List D)} (h : Parts w A n Ps) (hb : Below w.heap.size w w') : Parts w' A n Ps :=
  ⟨h.len, fun k hk => by
    obtain ⟨b, off, A', c', e, hb1, hc, hr⟩ := h.part k hk
    exact ⟨b, off, A', c', e, Nat.lt_of_lt_of_le hb1 hb.size, (hb.cell hb1).trans hc, hr.up hb hb.size⟩⟩

theorem flat_take (Ps : List (List D)) (k : Nat) (hk : k < Ps.length) : (Ps.take (k + 1)).flatten = (Ps.take k).flatten ++ Ps.getD k [] := by
  rw [List.take_succ_eq_append_getElem hk, List.flatten_append]
  simp [hk]
theorem flat_le (Ps : List (List D)) (k : Nat) : (Ps.take k).flatten.length ≤ Ps.flatten.length := by
  conv => rhs; rw [← List.take_append_drop k Ps, List.flatten_append, List.length_append]
  omega

theorem elem_darts : Tryz.prog.underlying 45 = some (.slice (Tryz.prog.elem 45)) := by kernel_rfl
theorem size_darts (W : World) : (sizeOf (Tryz.prog.elem 45)).run Tryz.prog W = .ok 3 W := by kernel_rfl

/-- l[lo:len(l):len(l)]. -/
theorem sl_lhm (A : Option Addr) (n c lo : Nat) (h1 : lo ≤ n) (h2 : n ≤ c) : ∃ X, (∀ W, (Instr.slice 45 (.slice A n c) (some (.int .i64 (lo : Int))) (some (.int .i64 (n : Int))) (some (.int .i64 (n : Int)))).run Tryz.prog W = .ok (.slice X (n - lo) (n - lo)) W) ∧
    ∀ W B L, RdS W B 3 A n c (dartsV L) → RdS W B 3 X (n - lo) (n - lo) (dartsV (L.drop lo)) := by
  refine ⟨if n = lo then A else A.map (·.add (lo * 3)), fun W => ?_, fun W B L h => ?_⟩
  · rw [run_slice_lhm W 45 A n c elem_darts .i64 .i64 .i64 lo n n (by omega) (by omega) (by omega) (by omega), size_darts]
    simp [sliced, Result.andThen]
  · have := h.piece h1 (Nat.le_refl n) (Nat.le_refl n) h2
    rwa [List.take_of_length_le (by rw [h.dlen]; omega)] at this
/-- l[:hi]. -/
theorem sl_h (A : Option Addr) (n c hi : Nat) (h1 : hi ≤ n) (h2 : n ≤ c) : ∃ X, (∀ W, (Instr.slice 45 (.slice A n c) none (some (.int .i64 (hi : Int))) none).run Tryz.prog W = .ok (.slice X hi c) W) ∧
    ∀ W B L, RdS W B 3 A n c (dartsV L) → RdS W B 3 X hi c (dartsV (L.take hi)) := by
  refine ⟨if c = 0 then A else A.map (·.add (0 * 3)), fun W => ?_, fun W B L h => ?_⟩
  · rw [run_slice_h W 45 A n c elem_darts .i64 hi (by omega) (by omega), size_darts]
    simp [sliced, Result.andThen]
  · have := h.piece (lo := 0) (Nat.zero_le _) h1 (Nat.le_trans h1 h2) (Nat.le_refl c)
    simpa using this
set_option maxRecDepth 100000 in
set_option maxHeartbeats 1000000 in
theorem turned_any (A : Option Addr) (n c : Nat) (Ps : List (List D)) (w : World) (h : Parts w A n Ps) (hn : n ≤ 100) (hm : Ps.flatten.length ≤ 1000000) :
    Calls Tryz.prog 87 #[.slice A n c] w (GivesR w (turnD Ps.flatten)) := by
  obtain ⟨i0, hi, hz0, hz1, hz2⟩ := info_parts info_dart
  have H := Lib.hid h
  clear h
  go_enter Tryz.func87, Tryz.ntmps87
  go_wp2
  go_loopw [3, 11] (fun v i wr => ∃ k : Nat, k ≤ n ∧ i = .int .i64 k ∧ Ow w w.heap.size 49 3 v (Ps.take k).flatten.length (dartsV (Ps.take k).flatten) wr) (fun _ i _ => n - (intOf i).toNat)
  case atStart => exact ⟨0, Nat.zero_le _, rfl, by simpa [dartsV] using Ow.nil_ (Below.refl _ w) (Nat.le_refl _) (Nat.le_refl _)⟩
  case round =>
    obtain ⟨k, hk, rfl, how⟩ := hrel
    have HO := Lib.hid how
    by_cases hlt : k < n
    · obtain ⟨b, off, A', c', rfl, hb, hc, hr⟩ := (H.out.up (how.below)).part k hlt
      have HR := Lib.hid hr
      have HF := Lib.hid (flat_take Ps k (by have := H.out.len; omega))
      have hle : ((Ps.take k).flatten.length + (Ps.getD k []).length) ≤ 1000000 := by
        have := flat_le Ps (k + 1)
        rw [HF.out, List.length_append] at this
        omega
      clear how hr
      obtain ⟨P, gP⟩ : ∃ v, Ps.getD k [] = v := ⟨_, rfl⟩
      rw [gP] at hc HR HF hle
      clear gP
      go_wp2_with (first
        | (at_builtin
           refine wpList_push rfl (.tmp 15) (.tmp 16) _ rfl _ 49 i0 _ 3 24 Tryz.underlying45 hi hz0 hz1 hz2 rfl (by decide) _ _ _ rfl (by exact HO.out) _ _ _ _ _ rfl (by exact HR.out) (dartsV_one P) (by unfold maxLen; omega) (by omega) ?_
           intro v1 w1 how1 hb1
           have HO1 := Lib.hid how1
           clear how1))
      go_roundw
      case rel =>
        refine ⟨k + 1, by omega, by go_num, ?_⟩
        rw [HF.out, List.length_append, dartsV_app]
        exact HO1.out
      case measure => simp [intOf]; omega
    · have hkn : k = n := by omega
      have htk : Ps.take k = Ps := List.take_of_length_le (by have := H.out.len; omega)
      rw [htk] at HO
      clear how htk hkn
      obtain ⟨L, gL⟩ : ∃ v, Ps.flatten = v := ⟨_, rfl⟩
      rw [gL] at HO hm
      have GL := Lib.hid gL
      clear gL
      obtain ⟨A1, c1, hv, hr1⟩ := HO.out.rds
      subst hv
      have HR := Lib.hid hr1
      clear hr1
      have HB := Lib.hid HO.out.below
      clear HO H
      obtain ⟨W1, rfl⟩ : ∃ x : World, x = wr := ⟨_, rfl⟩
      go_wp2
      go_loopw [6, 21] (fun lv i wr => ∃ k : Nat, k ≤ L.length ∧ i = .int .i64 k ∧ lv = .int .i64 (leastI L k : Int) ∧ Below W1.heap.size W1 wr) (fun _ i _ => L.length - (intOf i).toNat)
      case atStart => exact ⟨0, Nat.zero_le _, rfl, rfl, Below.refl _ _⟩
      case round =>
        obtain ⟨k2, hk2, rfl, rfl, hbw⟩ := hrel
        have HBw := Lib.hid hbw
        by_cases hlt2 : k2 < L.length
        · obtain ⟨b, off, rfl, hb, hc⟩ := (HR.out.up hbw hbw.size).darts (by omega)
          obtain ⟨d1, d2, d3⟩ := hc k2 hlt2
          have hlm := leastI_le L k2
          have hlm2 : leastI L k2 < L.length := by omega
          obtain ⟨e1, e2, e3⟩ := hc (leastI L k2) hlm2
          have hs : leastI L (k2 + 1) = if ordT (L.getD k2 (0, 0, 0)) (L.getD (leastI L k2) (0, 0, 0)) < 0 then k2 else leastI L k2 := rfl
          obtain ⟨m, gm⟩ : ∃ v, leastI L k2 = v := ⟨_, rfl⟩
          rw [gm] at e1 e2 e3 hlm hlm2 hs ⊢
          obtain ⟨x, gx⟩ : ∃ v, L.getD k2 (0, 0, 0) = v := ⟨_, rfl⟩
          obtain ⟨y, gy⟩ : ∃ v, L.getD m (0, 0, 0) = v := ⟨_, rfl⟩
          rw [gx] at d1 d2 d3 hs
          rw [gy] at e1 e2 e3 hs
          have HOr := orderdart_any x.1 x.2.1 x.2.2 y.1 y.2.1 y.2.2
          have ho : ordD x.1 x.2.1 x.2.2 y.1 y.2.1 y.2.2 = ordT x y := rfl
          obtain ⟨ov, gov⟩ : ∃ v, ordT x y = v := ⟨_, rfl⟩
          rw [ho, gov] at HOr
          rw [gov] at hs
          have HOr' := Lib.hid HOr
          have HS := Lib.hid hs
          clear hc hbw gm gx gy ho gov HOr hs
          go_upto_region 11 with fail
          obtain ⟨X, gX⟩ : ∃ v, wr.alloc (.cells #[.int .i64 x.1, .int .i64 x.2.1, .int .i64 x.2.2] 49) = v := ⟨_, rfl⟩
          have hXb : Below wr.heap.size wr X := by rw [← gX]; exact below1 _ _
          have hX : Whole X wr.heap.size 49 [.int .i64 x.1, .int .i64 x.2.1, .int .i64 x.2.2] := by rw [← gX]; exact Whole.new_ wr _ _
          obtain ⟨g, gg⟩ : ∃ v, wr.heap.size = v := ⟨_, rfl⟩
          rw [gX, gg]
          rw [gg] at hX hXb
          have f0 : ∀ w', Kept Nil_ X.drew w' → w'.cell? ⟨g, 0, none⟩ = some (.int .i64 x.1) := fun w' h => h.nil_cell (hX.cell rfl)
          have f1 : ∀ w', Kept Nil_ X.drew w' → w'.cell? ⟨g, 1, none⟩ = some (.int .i64 x.2.1) := fun w' h => h.nil_cell (hX.cell rfl)
          have f2 : ∀ w', Kept Nil_ X.drew w' → w'.cell? ⟨g, 2, none⟩ = some (.int .i64 x.2.2) := fun w' h => h.nil_cell (hX.cell rfl)
          have f3 : ∀ w', Kept Nil_ X.drew w' → w'.cell? ⟨b, off + m * 3, none⟩ = some (.int .i64 y.1) := fun w' h => h.nil_cell ((hXb.cell (by rw [← gg]; exact hb)).trans e1)
          have f4 : ∀ w', Kept Nil_ X.drew w' → w'.cell? ⟨b, off + m * 3 + 1, none⟩ = some (.int .i64 y.2.1) := fun w' h => h.nil_cell ((hXb.cell (by rw [← gg]; exact hb)).trans e2)
          have f5 : ∀ w', Kept Nil_ X.drew w' → w'.cell? ⟨b, off + m * 3 + 2, none⟩ = some (.int .i64 y.2.2) := fun w' h => h.nil_cell ((hXb.cell (by rw [← gg]; exact hb)).trans e3)
          have hE : RowKit.Hid (Below W1.heap.size W1 X) := HBw.out.trans ((show Below wr.heap.size wr X by rw [gg]; exact hXb).mono HBw.out.size)
          clear hX hXb gX gg d1 d2 d3 e1 e2 e3
          by_cases ho : ov < 0
          · rw [if_pos ho] at HS
            refine wp_region_reg (Nil_) (by kernel_rfl) ?_
            apply wpR_next 0 (some 26)
            · simp only [List.getElem?_toArray, List.getElem?_cons_succ, List.getElem?_cons_zero]; exact rfl
            · rfl
            · kernel_rfl
            · kernel_rfl
            · kernel_rfl
            · exact fun _ _ _ _ h => h
            apply Exists.intro
            apply And.intro
            · apply yr_run; rfl; intro w' hw'; go_simp; (try with_reducible rfl)
            simp only [Act.put, List.setIfInBounds_toArray, List.set_cons_zero, List.set_cons_succ]
            apply wpR_next 1 (some 27)
            · simp only [List.getElem?_toArray, List.getElem?_cons_succ, List.getElem?_cons_zero]; exact rfl
            · rfl
            · kernel_rfl
            · kernel_rfl
            · kernel_rfl
            · exact fun _ _ _ _ h => h
            apply Exists.intro
            apply And.intro
            · apply yr_run; rfl; intro w' hw'; go_simp; (try with_reducible rfl)
            simp only [Act.put, List.setIfInBounds_toArray, List.set_cons_zero, List.set_cons_succ]
            apply wpR_next 2 (some 28)
            · simp only [List.getElem?_toArray, List.getElem?_cons_succ, List.getElem?_cons_zero]; exact rfl
            · rfl
            · kernel_rfl
            · kernel_rfl
            · kernel_rfl
            · exact fun _ _ _ _ h => h
            apply Exists.intro
            apply And.intro
            · apply yr_run; rfl; intro w' hw'; go_simp; (try with_reducible rfl)
            simp only [Act.put, List.setIfInBounds_toArray, List.set_cons_zero, List.set_cons_succ]
            apply wpR_next 3 (some 29)
            · simp only [List.getElem?_toArray, List.getElem?_cons_succ, List.getElem?_cons_zero]; exact rfl
            · rfl
            · kernel_rfl
            · kernel_rfl
            · kernel_rfl
            · exact fun _ _ _ _ h => h
            apply Exists.intro
            apply And.intro
            · apply yr_run; rfl; intro w' hw'; go_simp; (try with_reducible rfl)
            simp only [Act.put, List.setIfInBounds_toArray, List.set_cons_zero, List.set_cons_succ]
            apply wpR_next 4 (some 30)
            · simp only [List.getElem?_toArray, List.getElem?_cons_succ, List.getElem?_cons_zero]; exact rfl
            · rfl
            · kernel_rfl
            · kernel_rfl
            · kernel_rfl
            · exact fun _ _ _ _ h => h
            apply Exists.intro
            apply And.intro
            · apply yr_run; rfl; intro w' hw'; go_simp; (try with_reducible rfl)
            simp only [Act.put, List.setIfInBounds_toArray, List.set_cons_zero, List.set_cons_succ]
            apply wpR_next 5 (some 31)
            · simp only [List.getElem?_toArray, List.getElem?_cons_succ, List.getElem?_cons_zero]; exact rfl
            · rfl
            · kernel_rfl
            · kernel_rfl
            · kernel_rfl
            · exact fun _ _ _ _ h => h
            apply Exists.intro
            apply And.intro
            · apply yr_call; rfl; rotate_left; intro w' hw'; exact HOr'.out w'; intro w'; go_simp
            simp only [Act.put, List.setIfInBounds_toArray, List.set_cons_zero, List.set_cons_succ]
            apply wpR_next 6 (some 32)
            · simp only [List.getElem?_toArray, List.getElem?_cons_succ, List.getElem?_cons_zero]; exact rfl
            · rfl
            · kernel_rfl
            · kernel_rfl
            · kernel_rfl
            · exact fun _ _ _ _ h => h
            apply Exists.intro
            apply And.intro
            · apply yr_run; rfl; intro w' hw'; go_simp; (try with_reducible rfl)
            simp only [Act.put, List.setIfInBounds_toArray, List.set_cons_zero, List.set_cons_succ]
            refine wpR_done (by kernel_rfl) ?_ _
            intro w' hw'
            have hE2 : RowKit.Hid (Below W1.heap.size W1 w') := (hE.out.drew).trans (hw'.mono (by have := hE.out.size; simpa using this))
            clear f0 f1 f2 f3 f4 f5 hw'
            go_wp2
            go_roundw
            case rel => exact ⟨k2 + 1, by omega, by go_num, by rw [HS.out], hE2.out⟩
            case measure => simp [intOf]; omega
          · rw [if_neg ho] at HS
            refine wp_region_reg (Nil_) (by kernel_rfl) ?_
            apply wpR_next 0 (some 26)
            · simp only [List.getElem?_toArray, List.getElem?_cons_succ, List.getElem?_cons_zero]; exact rfl
            · rfl
            · kernel_rfl
            · kernel_rfl
            · kernel_rfl
            · exact fun _ _ _ _ h => h
            apply Exists.intro
            apply And.intro
            · apply yr_run; rfl; intro w' hw'; go_simp; (try with_reducible rfl)
            simp only [Act.put, List.setIfInBounds_toArray, List.set_cons_zero, List.set_cons_succ]
            apply wpR_next 1 (some 27)
            · simp only [List.getElem?_toArray, List.getElem?_cons_succ, List.getElem?_cons_zero]; exact rfl
            · rfl
            · kernel_rfl
            · kernel_rfl
            · kernel_rfl
            · exact fun _ _ _ _ h => h
            apply Exists.intro
            apply And.intro
            · apply yr_run; rfl; intro w' hw'; go_simp; (try with_reducible rfl)
            simp only [Act.put, List.setIfInBounds_toArray, List.set_cons_zero, List.set_cons_succ]
            apply wpR_next 2 (some 28)
            · simp only [List.getElem?_toArray, List.getElem?_cons_succ, List.getElem?_cons_zero]; exact rfl
            · rfl
            · kernel_rfl
            · kernel_rfl
            · kernel_rfl
            · exact fun _ _ _ _ h => h
            apply Exists.intro
            apply And.intro
            · apply yr_run; rfl; intro w' hw'; go_simp; (try with_reducible rfl)
            simp only [Act.put, List.setIfInBounds_toArray, List.set_cons_zero, List.set_cons_succ]
            apply wpR_next 3 (some 29)
            · simp only [List.getElem?_toArray, List.getElem?_cons_succ, List.getElem?_cons_zero]; exact rfl
            · rfl
            · kernel_rfl
            · kernel_rfl
            · kernel_rfl
            · exact fun _ _ _ _ h => h
            apply Exists.intro
            apply And.intro
            · apply yr_run; rfl; intro w' hw'; go_simp; (try with_reducible rfl)
            simp only [Act.put, List.setIfInBounds_toArray, List.set_cons_zero, List.set_cons_succ]
            apply wpR_next 4 (some 30)
            · simp only [List.getElem?_toArray, List.getElem?_cons_succ, List.getElem?_cons_zero]; exact rfl
            · rfl
            · kernel_rfl
            · kernel_rfl
            · kernel_rfl
            · exact fun _ _ _ _ h => h
            apply Exists.intro
            apply And.intro
            · apply yr_run; rfl; intro w' hw'; go_simp; (try with_reducible rfl)
            simp only [Act.put, List.setIfInBounds_toArray, List.set_cons_zero, List.set_cons_succ]
            apply wpR_next 5 (some 31)
            · simp only [List.getElem?_toArray, List.getElem?_cons_succ, List.getElem?_cons_zero]; exact rfl
            · rfl
            · kernel_rfl
            · kernel_rfl
            · kernel_rfl
            · exact fun _ _ _ _ h => h
            apply Exists.intro
            apply And.intro
            · apply yr_call; rfl; rotate_left; intro w' hw'; exact HOr'.out w'; intro w'; go_simp
            simp only [Act.put, List.setIfInBounds_toArray, List.set_cons_zero, List.set_cons_succ]
            apply wpR_next 6 (some 32)
            · simp only [List.getElem?_toArray, List.getElem?_cons_succ, List.getElem?_cons_zero]; exact rfl
            · rfl
            · kernel_rfl
            · kernel_rfl
            · kernel_rfl
            · exact fun _ _ _ _ h => h
            apply Exists.intro
            apply And.intro
            · apply yr_run; rfl; intro w' hw'; go_simp; (try with_reducible rfl)
            simp only [Act.put, List.setIfInBounds_toArray, List.set_cons_zero, List.set_cons_succ]
            refine wpR_done (by kernel_rfl) ?_ _
            intro w' hw'
            have hE2 : RowKit.Hid (Below W1.heap.size W1 w') := (hE.out.drew).trans (hw'.mono (by have := hE.out.size; simpa using this))
            clear f0 f1 f2 f3 f4 f5 hw'
            go_wp2
            go_roundw
            case rel => exact ⟨k2 + 1, by omega, by go_num, by rw [HS.out], hE2.out⟩
            case measure => simp [intOf]; omega
        · have hkl : k2 = L.length := by omega
          subst hkl
          have hlm := leastI_le L L.length
          have ht : turnD L = L.drop (leastI L L.length) ++ L.take (leastI L L.length) := rfl
          have hm0 : 0 < L.length → leastI L L.length < L.length := fun h => leastI_lt L L.length h
          obtain ⟨m, gm⟩ : ∃ v, leastI L L.length = v := ⟨_, rfl⟩
          rw [gm] at hlm ht hm0 ⊢
          have HT := Lib.hid ht
          obtain ⟨X1, hs1, hx1⟩ := sl_lhm A1 L.length c1 m hlm HR.out.le
          obtain ⟨X2, hs2, hx2⟩ := sl_h A1 L.length c1 m hlm HR.out.le
          have RX1 := Lib.hid (fun W B => hx1 W B L)
          have RX2 := Lib.hid (fun W B => hx2 W B L)
          clear ht gm hx1 hx2 hbw
          go_upto_region 14 with fail
          have hE : RowKit.Hid (Below W1.heap.size W1 wr.drew) := HBw.out.drew
          have RR := Lib.hid (HR.out.up hE.out hE.out.size)
          refine wp_region_reg (Nil_) (by kernel_rfl) ?_
          apply wpR_next 0 (some 35)
          · simp only [List.getElem?_toArray, List.getElem?_cons_succ, List.getElem?_cons_zero]; exact rfl
          · rfl
          · kernel_rfl
          · kernel_rfl
          · kernel_rfl
          · exact fun _ _ _ _ h => h
          apply Exists.intro
          apply And.intro
          · apply yr_run; rfl; intro w' hw'; go_simp; (try with_reducible rfl)
          simp only [Act.put, List.setIfInBounds_toArray, List.set_cons_zero, List.set_cons_succ]
          apply wpR_next 1 (some 36)
          · simp only [List.getElem?_toArray, List.getElem?_cons_succ, List.getElem?_cons_zero]; exact rfl
          · rfl
          · kernel_rfl
          · kernel_rfl
          · kernel_rfl
          · exact fun _ _ _ _ h => h
          apply Exists.intro
          apply And.intro
          · apply yr_run; rfl; intro w' hw'; go_simp; (try with_reducible rfl)
          simp only [Act.put, List.setIfInBounds_toArray, List.set_cons_zero, List.set_cons_succ]
          apply wpR_next 2 (some 37)
          · simp only [List.getElem?_toArray, List.getElem?_cons_succ, List.getElem?_cons_zero]; exact rfl
          · rfl
          · kernel_rfl
          · kernel_rfl
          · kernel_rfl
          · exact fun _ _ _ _ h => h
          apply Exists.intro
          apply And.intro
          · apply yr_run; rfl; intro w' hw'; go_simp; (try with_reducible rfl)
          simp only [Act.put, List.setIfInBounds_toArray, List.set_cons_zero, List.set_cons_succ]
          apply wpR_next 3 (some 38)
          · simp only [List.getElem?_toArray, List.getElem?_cons_succ, List.getElem?_cons_zero]; exact rfl
          · rfl
          · kernel_rfl
          · kernel_rfl
          · kernel_rfl
          · exact fun _ _ _ _ h => h
          apply Exists.intro
          apply And.intro
          · apply yr_run; rfl; intro w' hw'; go_simp; (try with_reducible rfl)
          simp only [Act.put, List.setIfInBounds_toArray, List.set_cons_zero, List.set_cons_succ]
          apply wpR_next 4 (some 39)
          · simp only [List.getElem?_toArray, List.getElem?_cons_succ, List.getElem?_cons_zero]; exact rfl
          · rfl
          · kernel_rfl
          · kernel_rfl
          · kernel_rfl
          · exact fun _ _ _ _ h => h
          apply Exists.intro
          apply And.intro
          · apply yr_run; rfl; intro w' hw'; go_simp; (try with_reducible rfl)
          simp only [Act.put, List.setIfInBounds_toArray, List.set_cons_zero, List.set_cons_succ]
          apply wpR_next 5 (some 40)
          · simp only [List.getElem?_toArray, List.getElem?_cons_succ, List.getElem?_cons_zero]; exact rfl
          · rfl
          · kernel_rfl
          · kernel_rfl
          · kernel_rfl
          · exact fun _ _ _ _ h => h
          apply Exists.intro
          apply And.intro
          · apply yr_run; rfl; intro w' hw'; go_simp; (try with_reducible rfl)
          simp only [Act.put, List.setIfInBounds_toArray, List.set_cons_zero, List.set_cons_succ]
          apply wpR_next 6 (some 41)
          · simp only [List.getElem?_toArray, List.getElem?_cons_succ, List.getElem?_cons_zero]; exact rfl
          · rfl
          · kernel_rfl
          · kernel_rfl
          · kernel_rfl
          · exact fun _ _ _ _ h => h
          apply Exists.intro
          apply And.intro
          · apply yr_run; rfl; intro w' hw'; go_simp; (try with_reducible rfl)
          simp only [Act.put, List.setIfInBounds_toArray, List.set_cons_zero, List.set_cons_succ]
          apply wpR_next 7 (some 42)
          · simp only [List.getElem?_toArray, List.getElem?_cons_succ, List.getElem?_cons_zero]; exact rfl
          · rfl
          · kernel_rfl
          · kernel_rfl
          · kernel_rfl
          · exact fun _ _ _ _ h => h
          apply Exists.intro
          apply And.intro
          · apply yr_run; rfl; intro w' hw'; go_simp; (try with_reducible rfl)
          simp only [Act.put, List.setIfInBounds_toArray, List.set_cons_zero, List.set_cons_succ]
          apply wpR_next 8 (some 43)
          · simp only [List.getElem?_toArray, List.getElem?_cons_succ, List.getElem?_cons_zero]; exact rfl
          · rfl
          · kernel_rfl
          · kernel_rfl
          · kernel_rfl
          · exact fun _ _ _ _ h => h
          apply Exists.intro
          apply And.intro
          · apply yr_run; rfl; intro w' hw'; go_simp; (try with_reducible rfl)
          simp only [Act.put, List.setIfInBounds_toArray, List.set_cons_zero, List.set_cons_succ]
          apply wpR_next 9 (some 44)
          · simp only [List.getElem?_toArray, List.getElem?_cons_succ, List.getElem?_cons_zero]; exact rfl
          · rfl
          · kernel_rfl
          · kernel_rfl
          · kernel_rfl
          · exact fun _ _ _ _ h => h
          apply Exists.intro
          apply And.intro
          · apply yr_run; rfl; intro w' hw'; go_simp; (try with_reducible rfl)
          simp only [Act.put, List.setIfInBounds_toArray, List.set_cons_zero, List.set_cons_succ]
          apply wpR_run 10 (some 45)
          · simp only [List.getElem?_toArray, List.getElem?_cons_succ, List.getElem?_cons_zero]; exact rfl
          · rfl
          · kernel_rfl
          · rfl
          intro w' hw'
          have HG : ∃ A3 c3 w'', (Builtin.append_ #[45, 45] 45 #[.slice X1 (L.length - m) (L.length - m), .slice X2 m c1]).run Tryz.prog w' = .ok (.slice A3 L.length c3) w'' ∧ RdS w'' w''.heap.size 3 A3 L.length c3 (dartsV (L.drop m ++ L.take m)) ∧ Below w'.heap.size w' w'' := by
            have r1 := RX1.out w' _ (RR.out.up hw' hw'.size)
            have r2 := RX2.out w' _ (RR.out.up hw' hw'.size)
            by_cases h0 : m = 0
            · subst h0
              refine ⟨X1, L.length, w', ?_, ?_, Below.refl _ _⟩
              · have := run_append_none (P := Tryz.prog) w' 45 45 49 i0 Tryz.underlying45 hi X1 X2 (L.length - 0) (L.length - 0) c1 (Nat.le_refl _)
                simpa using this
              · simpa using r1
            · obtain ⟨cap, w'', hr, hown, hb⟩ := run_append_full (P := Tryz.prog) w' 45 45 49 i0 _ 3 24 Tryz.underlying45 hi hz0 hz1 hz2 rfl (by decide) _ _ X1 X2 (L.length - m) m c1 _ _ r1 r2 (by omega) (by have := hm0 (by omega); omega) (by unfold maxLen; omega) (by omega)
              obtain ⟨A3, c3, hv, hr3⟩ := RdS.of_own hown
              rw [show L.length - m + m = L.length by omega] at hr hv hr3
              rw [hv] at hr
              rw [← dartsV_app] at hr3
              exact ⟨A3, c3, w'', hr, hr3, hb⟩
          obtain ⟨A3, c3, w3, hrun, hr3, hb3⟩ := HG
          have HG : RowKit.Hid (∃ A c, Value.slice A3 L.length c3 = .slice A L.length c ∧ RdS w3 w3.heap.size 3 A L.length c (dartsV (L.drop m ++ L.take m)) ∧ Below w.heap.size w w3) := by
            have e1 := HB.out
            have e2 := hE.out
            have h1 : Below w.heap.size w w' := (e1.trans (e2.mono e1.size)).trans (hw'.mono (Nat.le_trans e1.size e2.size))
            exact ⟨A3, c3, rfl, hr3, h1.trans (hb3.mono h1.size)⟩
          refine ⟨_, w3, exec_append rfl rfl rfl hrun, Kept.of_below hb3, ?_⟩
          clear hrun hr3 hb3 hw'
          simp only [Act.put, List.setIfInBounds_toArray, List.set_cons_zero, List.set_cons_succ]
          apply wpR_next 11 (some 2)
          · simp only [List.getElem?_toArray, List.getElem?_cons_succ, List.getElem?_cons_zero]; exact rfl
          · rfl
          · kernel_rfl
          · kernel_rfl
          · kernel_rfl
          · exact fun _ _ _ _ h => h
          apply Exists.intro
          apply And.intro
          · apply yr_run; rfl; intro w' hw'; go_simp; (try with_reducible rfl)
          simp only [Act.put, List.setIfInBounds_toArray, List.set_cons_zero, List.set_cons_succ]
          refine wpR_done (by kernel_rfl) ?_ _
          intro w' hw'
          go_wp2
          go_ret
          have hG := HG.out
          obtain ⟨A3, c3, hv, hr3, hb3⟩ := hG
          have hlen : (turnD L).length = L.length := by rw [HT.out]; simp; omega
          refine ⟨A3, c3, ?_, ?_, ?_⟩
          · rw [GL.out, hlen]
            exact congrArg _ hv
          · rw [GL.out, hlen, HT.out]
            exact hr3.up hw' hw'.size
          · exact hb3.trans (hw'.mono hb3.size)
end Go.Proofs.YtahbfdhjgnlmdaaGreat

/- Rings turned, searched along: the contracts of ring.Turn, along, Next, Prev; and of ring.Same. -/
namespace Go.Proofs.YtahbfdhjgnlmdaaGreat
open Go.RowKit
set_option linter.unusedSimpArgs false

theorem turnD_length (L : List D) : (turnD L).length = L.length := by
  have := leastI_le L L.length
  simp [turnD]
  omega

theorem parts1 {w : World} {g n c : Nat} {t : TypeId} {A : Option Addr} {L : List D} (hg : Whole w g t [.slice A n c]) (hr : RdS w w.heap.size 3 A n c (dartsV L)) : Parts w (some ⟨g, 0, none⟩) 1 [L] := by
  have := hr.dlen
  subst this
  refine ⟨rfl, fun k hk => ?_⟩
  obtain rfl : k = 0 := by omega
  exact ⟨g, 0, A, c, rfl, hg.lt, hg.cell rfl, hr⟩
theorem turn_of (A : Option Addr) (n c : Nat) (L : List D) (w : World) (g : Nat) (t : TypeId) (hg : Whole w g t [.slice A n c]) (hr : RdS w w.heap.size 3 A n c (dartsV L)) (hn : n ≤ 1000000) :
    Calls Tryz.prog 87 #[.slice (some ⟨g, 0, none⟩) 1 1] w (GivesR w (turnD L)) := by
  have h := turned_any (some ⟨g, 0, none⟩) 1 1 [L] w (parts1 hg hr) (by omega) (by have := hr.dlen; simp; omega)
  simpa using h

theorem turn_any (A : Option Addr) (n c : Nat) (L : List D) (w : World) (h : RdS w w.heap.size 3 A n c (dartsV L)) (hn : n ≤ 1000000) :
    Calls Tryz.prog 70 #[.slice A n c] w (GivesR w (turnD L)) := by
  have HT := Lib.hid (fun W g t hg hr => turn_of A n c L W g t hg hr hn)
  have H := Lib.hid h
  clear h
  go_enter Tryz.func70, Tryz.ntmps70
  go_wp2_with (go_at_call 87; refine (HT.out _ _ _ (by exact Whole.new_ w _ _) (by exact H.out.up (below1 _ _) (by simp))).mono ?_; rintro e w2 ⟨A2, c2, rfl, hr2, hb2⟩)
  go_ret
  exact ⟨A2, c2, rfl, hr2, below_after1 hb2⟩
theorem RdS.whole3 {w : World} {g : Nat} {t : TypeId} {L : List D} (hw : Whole w g t (dartsV L)) : RdS w w.heap.size 3 (some ⟨g, 0, none⟩) L.length L.length (dartsV L) :=
  ⟨dartsV_length L, fun e => (by cases e), Nat.le_refl _, fun a e _ => (by obtain rfl := Option.some.inj e; exact hw.lt), fun a e j u hj => (by
    obtain rfl := Option.some.inj e
    rw [Addr.add_lit]
    simpa using hw.cell hj)⟩
end Go.Proofs.YtahbfdhjgnlmdaaGreat

/- ident.May, and the document's own. -/
namespace Go.Proofs.YtahbfdhjgnlmdaaGreat
open Go.RowKit

theorem may_yes (s n : Int) (w : World) (h1 : 1 ≤ s) (h2 : s ≤ 8) (h3 : 1 ≤ n) (h4 : n ≤ 1048576) :
    Calls Tryz.prog 66 #[.agg #[.int .i64 s, .int .i64 n]] w fun e w' => e = .returned (.bool true) ∧ Below w.heap.size w w' := by
  go_enter Tryz.func66, Tryz.ntmps66
  go_wp2
  go_ret
  exact ⟨rfl, below1 _ _⟩

theorem may_no (s n : Int) (w : World) (h : ¬ (1 ≤ s ∧ s ≤ 8 ∧ 1 ≤ n ∧ n ≤ 1048576)) :
    Calls Tryz.prog 66 #[.agg #[.int .i64 s, .int .i64 n]] w fun e w' => e = .returned (.bool false) ∧ Below w.heap.size w w' := by
  by_cases h1 : 1 ≤ s
  · by_cases h2 : s ≤ 8
    · by_cases h3 : 1 ≤ n
      · have h4 : ¬ n ≤ 1048576 := by omega
        go_enter Tryz.func66, Tryz.ntmps66
        go_wp2
        go_ret
        exact ⟨rfl, below1 _ _⟩
      · clear h
        go_enter Tryz.func66, Tryz.ntmps66
        go_wp2
        go_ret
        exact ⟨rfl, below1 _ _⟩
    · clear h
      go_enter Tryz.func66, Tryz.ntmps66
      go_wp2
      go_ret
      exact ⟨rfl, below1 _ _⟩
  · clear h
    go_enter Tryz.func66, Tryz.ntmps66
    go_wp2
    go_ret
    exact ⟨rfl, below1 _ _⟩

theorem may_any (s n : Int) : Pure 66 #[.agg #[.int .i64 s, .int .i64 n]] (.bool (mayI s n)) := fun w => by
  by_cases h : 1 ≤ s ∧ s ≤ 8 ∧ 1 ≤ n ∧ n ≤ 1048576
  · rw [show mayI s n = true from decide_eq_true h]
    exact may_yes s n w h.1 h.2.1 h.2.2.1 h.2.2.2
  · rw [show mayI s n = false from decide_eq_false h]
    exact may_no s n w h

theorem rmay_any (s n : Int) : Pure 59 #[.agg #[.int .i64 s, .int .i64 n]] (.bool (mayI s n)) := fun w => by
  by_cases h : 1 ≤ s ∧ s ≤ 8 ∧ 1 ≤ n ∧ n ≤ 1048576
  · rw [show mayI s n = true from decide_eq_true h]
    obtain ⟨h1, h2, h3, h4⟩ := h
    go_enter Tryz.func59, Tryz.ntmps59
    go_wp2
    go_ret
    exact ⟨rfl, below1 _ _⟩
  · rw [show mayI s n = false from decide_eq_false h]
    by_cases h1 : 1 ≤ s
    · by_cases h2 : s ≤ 8
      · by_cases h3 : 1 ≤ n
        · have h4 : ¬ n ≤ 1048576 := by omega
          clear h
          go_enter Tryz.func59, Tryz.ntmps59
          go_wp2
          go_ret
          exact ⟨rfl, below1 _ _⟩
        · clear h
          go_enter Tryz.func59, Tryz.ntmps59
          go_wp2
          go_ret
          exact ⟨rfl, below1 _ _⟩
      · clear h
        go_enter Tryz.func59, Tryz.ntmps59
        go_wp2
        go_ret
        exact ⟨rfl, below1 _ _⟩
    · clear h
      go_enter Tryz.func59, Tryz.ntmps59
      go_wp2
      go_ret
      exact ⟨rfl, below1 _ _⟩


end Go.Proofs.YtahbfdhjgnlmdaaGreat

/- The contracts of diagram.MayLabel and of the document's own. -/
namespace Go.Proofs.YtahbfdhjgnlmdaaGreat
open Go.RowKit
set_option linter.unusedSimpArgs false
set_option linter.unusedVariables false

def okB (c : UInt8) : Bool := decide (32 ≤ c.toNat ∧ c.toNat ≤ 126)
/-- A label that may be. -/
def mayL (s : ByteArray) : Bool := decide (s.size ≤ 16) && s.data.toList.all okB

theorem takeB_snoc (s : ByteArray) (k : Nat) (h : k < s.size) : s.data.toList.take (k + 1) = s.data.toList.take k ++ [s[k]] := by
  rw [List.take_succ_eq_append_getElem (by simpa using h)]; rfl
theorem allB_step (s : ByteArray) (k : Nat) (h : k < s.size) (ha : (s.data.toList.take k).all okB = true) (hk : okB s[k] = true) : (s.data.toList.take (k + 1)).all okB = true := by
  rw [takeB_snoc s k h, List.all_append, ha]
  simp [hk]
theorem allB_not (s : ByteArray) (k : Nat) (h : k < s.size) (hk : okB s[k] = false) : s.data.toList.all okB = false := by
  rw [List.all_eq_false]
  refine ⟨s[k], ?_, by simp [hk]⟩
  show s.data[k] ∈ s.data.toList
  simp
theorem allB_all (s : ByteArray) (k : Nat) (h : s.size ≤ k) (ha : (s.data.toList.take k).all okB = true) : s.data.toList.all okB = true := by
  rwa [List.take_of_length_le (by simpa using h)] at ha

/-- The rune at a place: the byte itself where it is below 128; else one above 126. -/
theorem decode_is (s : ByteArray) (pos : Nat) (h : pos < s.size) : ∃ c wd, Utf8.decode s pos = (c, wd) ∧ 1 ≤ wd ∧ ((s[pos].toNat < 128 ∧ c = s[pos].toNat ∧ wd = 1) ∨ (128 ≤ s[pos].toNat ∧ 128 ≤ c)) := by
  by_cases ha : s[pos].toNat < 128
  · exact ⟨_, _, decode_ascii s pos h ha, Nat.le_refl _, .inl ⟨ha, rfl, rfl⟩⟩
  · have hh := decode_high s pos h (by omega)
    exact ⟨_, _, rfl, hh.2, .inr ⟨by omega, hh.1⟩⟩

theorem run_next_is (P : Program) (w : World) (s : ByteArray) (pos : Nat) (h : pos < s.size) {c wd : Nat} (hd : Utf8.decode s pos = (c, wd)) (ty : TypeId) :
    (Instr.next (.pointer (some ⟨w.heap.size, 0, none⟩)) true ty).run P (w.iter s pos) = .ok (.tuple #[.bool true, .int .i64 pos, .int .i32 c]) (w.iter s (pos + wd)) := by
  simp only [Instr.next, getObj, setObj, Sem.run_bind, Sem.run, World.iter_heap, Result.andThen, h, if_true, hd, World.iter_set]
  simp [goInt, Sem.run, World.iter_heap, World.iter_set]

set_option maxRecDepth 100000 in
theorem maylabel_any (s : ByteArray) : Pure 73 #[.string s] (.bool (mayL s)) := fun w => by
  by_cases h16 : s.size ≤ 16
  case neg =>
    have hr : mayL s = false := by simp [mayL, h16]
    have hq : decide ((16 : Int) < (s.size : Int)) = true := decide_eq_true (by omega)
    rw [hr]
    clear hr h16
    go_enter Tryz.func73, Tryz.ntmps73
    go_wp2
    go_ret
    exact ⟨rfl, Below.refl _ _⟩
  have hq : decide ((16 : Int) < (s.size : Int)) = false := decide_eq_false (by omega)
  have HS := Lib.hid h16
  clear h16
  go_enter Tryz.func73, Tryz.ntmps73
  go_wp2
  clear hq
  go_loopw [] (fun w' => ∃ pos : Nat, w' = w.iter s pos ∧ (s.data.toList.take pos).all okB = true) (fun w' => s.size - w'.iterPos w.heap.size)
  case atStart => exact ⟨0, rfl, by simp⟩
  case round =>
    obtain ⟨pos, rfl, ha⟩ := hrel
    have HA := Lib.hid ha
    clear ha
    by_cases hp : pos < s.size
    · obtain ⟨c, wd, hd, hwd, hc⟩ := decode_is s pos hp
      have hnx := fun ty => run_next_is Tryz.prog w s pos hp hd ty
      have HW := Lib.hid hwd
      clear hd hwd
      by_cases c1 : 32 ≤ c
      · by_cases c2 : c ≤ 126
        · have q1 : decide ((c : Int) < 32) = false := decide_eq_false (by omega)
          have q2 : decide ((126 : Int) < (c : Int)) = false := decide_eq_false (by omega)
          have HC1 := Lib.hid c1
          have HC2 := Lib.hid c2
          clear c1 c2
          have HC := Lib.hid hc
          have HP := Lib.hid hp
          clear hc
          go_wp2
          go_roundw
          case rel =>
            rcases HC.out with ⟨h1, rfl, rfl⟩ | ⟨h1, h2⟩
            · exact ⟨pos + 1, rfl, allB_step s pos hp HA.out (by have a := HC1.out; have b := HC2.out; simpa [okB] using ⟨a, b⟩)⟩
            · have := HC2.out
              omega
          case measure =>
            have a := hp
            have b := HW.out
            simp
            omega
        · have q1 : decide ((c : Int) < 32) = false := decide_eq_false (by omega)
          have q2 : decide ((126 : Int) < (c : Int)) = true := decide_eq_true (by omega)
          have hr : mayL s = false := by
            have : okB (s[pos]'hp) = false := by
              rcases hc with ⟨h1, h2, h3⟩ | ⟨h1, h2⟩
              · simp [okB]; omega
              · simp [okB]; omega
            simp [mayL, allB_not s pos hp this]
          have HR := Lib.hid hr
          clear c1 c2 hr
          go_wp2
          go_ret
          exact ⟨ret_bool HR.out.symm, below1 _ _⟩
      · have q1 : decide ((c : Int) < 32) = true := decide_eq_true (by omega)
        have hr : mayL s = false := by
          have : okB (s[pos]'hp) = false := by
            rcases hc with ⟨h1, h2, h3⟩ | ⟨h1, h2⟩
            · simp [okB]; omega
            · omega
          simp [mayL, allB_not s pos hp this]
        have HR := Lib.hid hr
        clear c1 hr
        go_wp2
        go_ret
        exact ⟨ret_bool HR.out.symm, below1 _ _⟩
    · have hr : mayL s = true := by simp [mayL, HS.out, allB_all s pos (by omega) HA.out]
      have hnx : ∀ ty, (Instr.next (.pointer (some ⟨w.heap.size, 0, none⟩)) true ty).run Tryz.prog (w.iter s pos) = _ := fun ty => run_next_end w s pos ty hp
      have HR := Lib.hid hr
      clear hp hr
      go_wp2
      go_ret
      exact ⟨ret_bool HR.out.symm, below1 _ _⟩

set_option maxRecDepth 100000 in
theorem rmaylabel_any (s : ByteArray) (hs : s.size ≤ maxLen) : Pure 40 #[.string s] (.bool (mayL s)) := fun w => by
  unfold maxLen at hs
  go_enter Tryz.func40, Tryz.ntmps40
  go_wp2
  go_loop [3] (fun i => ∃ k : Nat, k ≤ s.size ∧ i = .int .i64 k ∧ (s.data.toList.take k).all okB = true) (fun i => s.size - (intOf i).toNat)
  case atStart => exact ⟨0, Nat.zero_le _, rfl, by simp⟩
  case round =>
    obtain ⟨k, hk, rfl, ha⟩ := hrel
    have HA := Lib.hid ha
    clear ha
    by_cases hlt : k < s.size
    · obtain ⟨c, gc⟩ : ∃ c : UInt8, c = s[k] := ⟨_, rfl⟩
      have HGC := Lib.hid gc
      by_cases c1 : 32 ≤ c.toNat
      · by_cases c2 : c.toNat ≤ 126
        · have q1 : decide ((c.toNat : Int) < 32) = false := decide_eq_false (by omega)
          have q2 : decide ((126 : Int) < (c.toNat : Int)) = false := decide_eq_false (by omega)
          rw [gc] at q1 q2
          have HK : RowKit.Hid (okB c = true) := Lib.hid (by simp [okB]; omega)
          clear c1 c2 gc
          go_wp2
          go_round
          case rel => exact ⟨k + 1, by omega, by go_num, allB_step s k hlt HA.out (HGC.out ▸ HK.out)⟩
          case measure => simp [intOf]; omega
        · have q1 : decide ((c.toNat : Int) < 32) = false := decide_eq_false (by omega)
          have q2 : decide ((126 : Int) < (c.toNat : Int)) = true := decide_eq_true (by omega)
          rw [gc] at q1 q2
          have hr : mayL s = false := by
            have : okB (s[k]'hlt) = false := by rw [← gc]; simp [okB]; omega
            simp [mayL, allB_not s k hlt this]
          have HR := Lib.hid hr
          clear c1 c2 gc hr
          go_wp2
          go_ret
          exact ⟨ret_bool HR.out.symm, Below.refl _ _⟩
      · have q1 : decide ((c.toNat : Int) < 32) = true := decide_eq_true (by omega)
        rw [gc] at q1
        have hr : mayL s = false := by
          have : okB (s[k]'hlt) = false := by rw [← gc]; simp [okB]; omega
          simp [mayL, allB_not s k hlt this]
        have HR := Lib.hid hr
        clear c1 gc hr
        go_wp2
        go_ret
        exact ⟨ret_bool HR.out.symm, Below.refl _ _⟩
    · have hr : mayL s = decide (s.size ≤ 16) := by simp [mayL, allB_all s k (by omega) HA.out]
      by_cases h16 : s.size ≤ 16
      · rw [decide_eq_true h16] at hr
        have HR := Lib.hid hr
        have q : decide ((s.size : Int) ≤ 16) = true := decide_eq_true (by omega)
        clear hr h16
        go_wp2
        go_ret
        exact ⟨ret_bool HR.out.symm, Below.refl _ _⟩
      · rw [decide_eq_false h16] at hr
        have HR := Lib.hid hr
        have q : decide ((s.size : Int) ≤ 16) = false := decide_eq_false (by omega)
        clear hr h16
        go_wp2
        go_ret
        exact ⟨ret_bool HR.out.symm, Below.refl _ _⟩
end Go.Proofs.YtahbfdhjgnlmdaaGreat

/- A diagram in memory: its cells; and as lists. -/
namespace Go.Proofs.YtahbfdhjgnlmdaaGreat
open Go.RowKit Go.Maps
set_option linter.unusedSimpArgs false
set_option linter.unusedVariables false

/-- A slice of darts, and the darts. -/
abbrev Rg := Option Addr × Nat × Nat × List D
/-- A vertex: its name, ring, label, attribute; an edge: its name, label, attribute. -/
abbrev VC := (Int × Int) × Rg × ByteArray × Int
abbrev EC := (Int × Int) × ByteArray × Int
def vC (v : VC) : List Value := [.int .i64 v.1.1, .int .i64 v.1.2, .slice v.2.1.1 v.2.1.2.1 v.2.1.2.2.1, .string v.2.2.1, .int .i64 v.2.2.2]
def eC (e : EC) : List Value := [.int .i64 e.1.1, .int .i64 e.1.2, .string e.2.1, .int .i64 e.2.2]
theorem vC_len (v : VC) : (vC v).length = 5 := rfl
theorem eC_len (e : EC) : (eC e).length = 4 := rfl
theorem eC_one (e : EC) : ∀ u ∈ eC e, u.oneCell' = true := by simp [eC, Value.oneCell']
def dC (d : D) : List Value := [.int .i64 d.1, .int .i64 d.2.1, .int .i64 d.2.2]
theorem dC_len (d : D) : (dC d).length = 3 := rfl
theorem dartsV_rows (l : List D) : dartsV l = rowsV dC l := by
  induction l with
  | nil => rfl
  | cons d l ih => rw [dartsV, ih]; rfl
/-- A ring lies where its slice says. -/
def RgOk (w : World) (r : Rg) : Prop := r.2.2.1 ≤ maxLen ∧ RdS w w.heap.size 3 r.1 r.2.1 r.2.2.1 (dartsV r.2.2.2)
/-- A diagram: its two rows. -/
structure DgIn (w : World) (A : Option Addr) (n c : Nat) (Vs : List VC) (B : Option Addr) (m k : Nat) (Es : List EC) : Prop where
  v : RdS w w.heap.size 5 A n c (rowsV vC Vs)
  e : RdS w w.heap.size 4 B m k (rowsV eC Es)
  r : ∀ x ∈ Vs, RgOk w x.2.1
theorem DgIn.below {w w' : World} {A B : Option Addr} {n c m k : Nat} {Vs : List VC} {Es : List EC} (h : DgIn w A n c Vs B m k Es) (hb : Below w.heap.size w w') : DgIn w' A n c Vs B m k Es :=
  ⟨h.v.bl hb, h.e.bl hb, fun x hx => ⟨(h.r x hx).1, (h.r x hx).2.bl hb⟩⟩
def mayA (n : Int) : Bool := decide (-1099511627776 ≤ n ∧ n ≤ 1099511627776)
set_option maxRecDepth 100000 in
theorem mayattr_any (n : Int) : Pure 76 #[.int .i64 n] (.bool (mayA n)) := fun w => by
  unfold mayA
  by_cases h1 : -1099511627776 ≤ n
  · by_cases h2 : n ≤ 1099511627776
    · rw [decide_eq_true ⟨h1, h2⟩]
      go_enter Tryz.func76, Tryz.ntmps76
      go_wp2
      go_ret
      exact ⟨rfl, Below.refl _ _⟩
    · rw [decide_eq_false (fun h => h2 h.2)]
      go_enter Tryz.func76, Tryz.ntmps76
      go_wp2
      go_ret
      exact ⟨rfl, Below.refl _ _⟩
  · rw [decide_eq_false (fun h => h1 h.1)]
    go_enter Tryz.func76, Tryz.ntmps76
    go_wp2
    go_ret
    exact ⟨rfl, Below.refl _ _⟩
end Go.Proofs.YtahbfdhjgnlmdaaGreat

/- What a vertex and an edge are asked: name, label, attribute; names that rise. -/
namespace Go.Proofs.YtahbfdhjgnlmdaaGreat
open Go.RowKit
set_option linter.unusedSimpArgs false
set_option linter.unusedVariables false

theorem ret_whole {P : Program} {fn : Func} {R : Ending → World → Prop} {a : Act} {w : World} {p : Tmp} {t : TypeId} (h : fn.results = #[.cell p t]) (g : Nat) {t' : TypeId} {cs : List Value} {d : TypeDesc}
    (hp : a.tmps.getD p undef = .pointer (some ⟨g, 0, none⟩)) (hW : Whole w g t' cs) (hu : P.underlying t = some d) (hd : d.isRow = true) (hi : (P.info? t).map (·.size) = some cs.length)
    (hdf : a.defers = []) (hR : R (.returned (.agg cs.toArray)) w) : bodyPost P fn R .ret a w := by
  refine bodyPost_ret (v := .agg cs.toArray) ?_ hdf hR
  have hl := run_loadVar_mid (P := P) w g 0 t cs d (fun j v hv => by
    have := hW.cell hv
    simpa using this) hu hd hi
  have hp2 := hp
  rw [Array.getD_eq_getD_getElem?] at hp2
  simp [results, h, hp2, asAddr, Sem.run_bind, Result.andThen, hl]

def riseF : Option (Int × Int) → List (Int × Int) → Bool
  | _, [] => true
  | o, x :: r => mayI x.1 x.2 && (match o with | none => true | some y => decide (ordI y.1 y.2 x.1 x.2 < 0)) && riseF (some x) r
set_option maxRecDepth 100000 in
theorem nameV (v : VC) (w : World) : Calls Tryz.prog 44 #[.agg (vC v).toArray] w fun e w' => e = .returned (.agg #[.int .i64 v.1.1, .int .i64 v.1.2]) ∧ Below w.heap.size w w' := by
  obtain ⟨⟨i1, i2⟩, ⟨rA, rn, rc, rL⟩, lb, at_⟩ := v
  show Calls Tryz.prog 44 #[.agg #[.int .i64 i1, .int .i64 i2, .slice rA rn rc, .string lb, .int .i64 at_]] w _
  go_enter Tryz.func44, Tryz.ntmps44
  go_wp2
  have hW := Whole.new_ (w.alloc (.cells (#[.int .i64 i1, .int .i64 i2, .slice rA rn rc, .string lb, .int .i64 at_]) 47)) 41 [.int .i64 i1, .int .i64 i2]
  simp only [World.size_alloc] at hW
  refine ret_whole rfl (w.heap.size + 1) rfl hW Tryz.underlying41 rfl (by kernel_rfl) rfl ?_
  exact ⟨rfl, by first | exact below2 _ _ _ | exact (below2 _ _ _).setCell (by simp) _ | exact ((below2 _ _ _).setCell (by simp) _).setCell (by simp) _⟩
set_option maxRecDepth 100000 in
theorem labelV (v : VC) (w : World) : Calls Tryz.prog 50 #[.agg (vC v).toArray] w fun e w' => e = .returned (.bool (mayL v.2.2.1)) ∧ Below w.heap.size w w' := by
  obtain ⟨⟨i1, i2⟩, ⟨rA, rn, rc, rL⟩, lb, at_⟩ := v
  show Calls Tryz.prog 50 #[.agg #[.int .i64 i1, .int .i64 i2, .slice rA rn rc, .string lb, .int .i64 at_]] w fun e w' => e = .returned (.bool (mayL lb)) ∧ Below w.heap.size w w'
  go_enter Tryz.func50, Tryz.ntmps50
  go_wp2_with fail
  refine (maylabel_any lb _).mono ?_
  rintro e w3 ⟨rfl, hb⟩
  go_wp2
  go_ret
  exact ⟨rfl, below_after1 hb⟩
set_option maxRecDepth 100000 in
theorem attrV (v : VC) (w : World) : Calls Tryz.prog 53 #[.agg (vC v).toArray] w fun e w' => e = .returned (.bool (mayA v.2.2.2)) ∧ Below w.heap.size w w' := by
  obtain ⟨⟨i1, i2⟩, ⟨rA, rn, rc, rL⟩, lb, at_⟩ := v
  show Calls Tryz.prog 53 #[.agg #[.int .i64 i1, .int .i64 i2, .slice rA rn rc, .string lb, .int .i64 at_]] w fun e w' => e = .returned (.bool (mayA at_)) ∧ Below w.heap.size w w'
  go_enter Tryz.func53, Tryz.ntmps53
  go_wp2_with fail
  refine (mayattr_any at_ _).mono ?_
  rintro e w3 ⟨rfl, hb⟩
  go_wp2
  go_ret
  exact ⟨rfl, below_after1 hb⟩
set_option maxRecDepth 100000 in
set_option maxHeartbeats 2000000 in
theorem riseV (A : Option Addr) (n c : Nat) (Vs : List VC) (w : World) (h : RdS w w.heap.size 5 A n c (rowsV vC Vs)) (hn : n ≤ 1000000) :
    Calls Tryz.prog 43 #[.slice A n c, .func (.func 44) #[] #[]] w fun e w' => e = .returned (.bool (riseF none (Vs.map (·.1)))) ∧ Below w.heap.size w w' := by
  have hl := h.rlen vC_len (by decide)
  have H := Lib.hid h
  have Hl := Lib.hid hl
  clear h hl
  go_enter Tryz.func43, Tryz.ntmps43
  go_wp2
  obtain ⟨W0, gW0⟩ : ∃ z, w.alloc (.cells #[.int .i64 0, .int .i64 0] 41) = z := ⟨_, rfl⟩
  obtain ⟨b0, gb0⟩ : ∃ z, w.heap.size = z := ⟨_, rfl⟩
  have hW : Whole (w.alloc (.cells #[.int .i64 0, .int .i64 0] 41)) w.heap.size 41 [.int .i64 0, .int .i64 0] := Whole.new_ w 41 [_, _]
  have HB0 : RowKit.Hid (Below w.heap.size w W0) := Lib.hid (by rw [← gW0]; exact below1 _ _)
  rw [gW0, gb0] at hW
  have HW0 := Lib.hid hW
  have Gb0 := Lib.hid gb0
  rw [gW0, gb0]
  clear hW gW0 gb0
  go_loopw [11] (fun si wr => ∃ (j : Nat) (o : Option (Int × Int)) (la : Int × Int), j ≤ n ∧ si = .int .i64 j ∧ (o = none ↔ j = 0) ∧ (∀ y, o = some y → y = la) ∧ RowKit.Hid (Whole wr b0 41 [.int .i64 la.1, .int .i64 la.2]) ∧ RowKit.Hid (Below w.heap.size w wr) ∧ RowKit.Hid (riseF none (Vs.map (·.1)) = riseF o ((Vs.drop j).map (·.1)))) (fun si _ => n - (intOf si).toNat)
  case atStart => exact ⟨0, none, (0, 0), by omega, rfl, by simp, fun y h => (by cases h), HW0, HB0, Lib.hid rfl⟩
  case round =>
    clear HW0 HB0
    obtain ⟨j, o, la, hj, rfl, ho, hla, HW, HB, HE⟩ := hrel
    obtain ⟨la1, la2⟩ := la
    dsimp only at HW
    by_cases hjn : j < n
    · obtain ⟨wo, gwo⟩ : ∃ z, wr = z := ⟨_, rfl⟩
      rw [gwo] at HW HB ⊢
      clear gwo
      obtain ⟨v, hx⟩ : ∃ v, Vs[j]? = some v := ⟨_, List.getElem?_eq_getElem (by have := Hl.out; omega)⟩
      have hdr : (Vs.drop j).map (·.1) = v.1 :: (Vs.drop (j + 1)).map (·.1) := by
        rw [List.drop_eq_getElem_cons (List.getElem?_eq_some_iff.1 hx).1, (List.getElem?_eq_some_iff.1 hx).2]; rfl
      have HE2 := HE.out
      rw [hdr] at HE2
      have HE3 := Lib.hid HE2
      obtain ⟨bb, off, rfl, hbB, hpl⟩ := H.out.place vC_len (by decide) (by omega)
      have hbw := HB.out
      have q0 := hpl j _ hx 0 _ rfl
      have q1 := hpl j _ hx 1 _ rfl
      have q2 := hpl j _ hx 2 _ rfl
      have q3 := hpl j _ hx 3 _ rfl
      have q4 := hpl j _ hx 4 _ rfl
      simp only [Addr.add_lit, Nat.add_zero] at q0 q1 q2 q3 q4
      have l0 := (hbw.cell (p := ⟨bb, off + j * 5, none⟩) hbB).trans q0
      have l1 := (hbw.cell (p := ⟨bb, off + j * 5 + 1, none⟩) hbB).trans q1
      have l2 := (hbw.cell (p := ⟨bb, off + j * 5 + 2, none⟩) hbB).trans q2
      have l3 := (hbw.cell (p := ⟨bb, off + j * 5 + 3, none⟩) hbB).trans q3
      have l4 := (hbw.cell (p := ⟨bb, off + j * 5 + 4, none⟩) hbB).trans q4
      have HbB := Lib.hid hbB
      have hnm := fun W => nameV v W
      obtain ⟨⟨i1, i2⟩, ⟨rA, rn, rc, rL⟩, lb, at_⟩ := v
      have HNm := Lib.hid hnm
      clear hx hdr HE2 hpl hbw q0 q1 q2 q3 q4 hnm hbB HE
      go_wp2_with fail
      refine (HNm.out _).mono ?_
      rintro e w3 ⟨rfl, hb3⟩
      have HB3 : RowKit.Hid (Below w.heap.size w w3) := Lib.hid (bel_bl (bel_al HB.out _) hb3)
      have HW3 : RowKit.Hid (Whole w3 b0 41 [.int .i64 la1, .int .i64 la2]) := Lib.hid ((HW.out.below (below1 wo _)).below hb3)
      clear hb3 l0 l1 l2 l3 l4
      go_wp2_with fail
      refine (may_any i1 i2 _).mono ?_
      rintro e w4 ⟨rfl, hb4⟩
      have HB4 : RowKit.Hid (Below w.heap.size w w4) := Lib.hid (bel_bl (bel_al HB3.out _) hb4)
      have HW4 : RowKit.Hid (Whole w4 b0 41 [.int .i64 la1, .int .i64 la2]) := Lib.hid ((HW3.out.below (below1 w3 _)).below hb4)
      have HX4 : RowKit.Hid (Whole w4 w3.heap.size 41 [.int .i64 i1, .int .i64 i2]) := Lib.hid ((Whole.new_ w3 41 [.int .i64 i1, .int .i64 i2]).below hb4)
      obtain ⟨b8, gb8⟩ : ∃ z, w3.heap.size = z := ⟨_, rfl⟩
      rw [gb8] at HX4 ⊢
      have hne : b0 ≠ b8 := by
        have := HW3.out.lt
        omega
      clear hb4 gb8 HW3 HB3
      cases hm : mayI i1 i2 with
      | false =>
        have hr : riseF none (Vs.map (·.1)) = false := by rw [HE3.out]; simp [riseF, hm]
        go_wp2
        go_ret
        exact ⟨by first | exact rfl | exact (congrArg (fun b => Ending.returned (Value.bool b)) hr).symm, HB4.out⟩
      | true =>
        rcases Nat.eq_zero_or_pos j with rfl | hj0
        · obtain rfl : o = none := ho.2 rfl
          have HE4 : RowKit.Hid (riseF none (Vs.map (·.1)) = riseF (some (i1, i2)) ((Vs.drop (0 + 1)).map (·.1))) := Lib.hid (by rw [HE3.out]; simp [riseF, hm])
          have c0 := HX4.out.cell (i := 0) rfl
          have c1 := HX4.out.cell (i := 1) rfl
          have d0 := HW4.out.cell (i := 0) rfl
          have d1 := HW4.out.cell (i := 1) rfl
          have f0 := HW4.out.free 0
          have f1 := HW4.out.free 1
          have HW5 : RowKit.Hid (Whole ((w4.setCell ⟨b0, 0, none⟩ (.int .i64 i1)).setCell ⟨b0, 1, none⟩ (.int .i64 i2)) b0 41 [.int .i64 i1, .int .i64 i2]) := Lib.hid ((HW4.out.set_ 0 (.int .i64 i1)).set_ 1 (.int .i64 i2))
          have HB5 : RowKit.Hid (Below w.heap.size w ((w4.setCell ⟨b0, 0, none⟩ (.int .i64 i1)).setCell ⟨b0, 1, none⟩ (.int .i64 i2))) := Lib.hid ((HB4.out.setCell (by rw [Gb0.out]; exact Nat.le_refl _) _).setCell (by rw [Gb0.out]; exact Nat.le_refl _) _)
          rw [show ((0 : Nat) : Int) = 0 from rfl]
          go_wp2
          go_roundw
          case rel => exact ⟨0 + 1, some (i1, i2), (i1, i2), by omega, by go_num, by simp, fun y h => (Option.some.inj h).symm, HW5, HB5, HE4⟩
          case measure => simp [intOf]; omega
        · obtain ⟨y, rfl⟩ : ∃ y, o = some y := by
            cases o with
            | none => have := ho.1 rfl; omega
            | some y => exact ⟨y, rfl⟩
          obtain rfl := hla y rfl
          have c0 := HX4.out.cell (i := 0) rfl
          have c1 := HX4.out.cell (i := 1) rfl
          have d0 := HW4.out.cell (i := 0) rfl
          have d1 := HW4.out.cell (i := 1) rfl
          have e0 : decide ((0 : Int) < (j : Int)) = true := decide_eq_true (by omega)
          obtain ⟨q, gq⟩ : ∃ q, ordI la1 la2 i1 i2 = q := ⟨_, rfl⟩
          have hor := fun W => order_any la1 la2 i1 i2 W
          rw [gq] at hor
          have HOr := Lib.hid hor
          have Gq := Lib.hid gq
          clear hor gq
          go_wp2_with fail
          refine (HOr.out _).mono ?_
          rintro e w5 ⟨rfl, hb5⟩
          have HB5 : RowKit.Hid (Below w.heap.size w w5) := Lib.hid (bel_bl HB4.out hb5)
          have HW5 := Lib.hid (HW4.out.below hb5)
          have HX5 := Lib.hid (HX4.out.below hb5)
          clear hb5 c0 c1 d0 d1
          by_cases hq : 0 ≤ q
          · have u0 : decide ((0 : Int) ≤ q) = true := decide_eq_true hq
            have hr : riseF none (Vs.map (·.1)) = false := by
              rw [HE3.out]
              have h1 := Gq.out
              have : decide (ordI la1 la2 i1 i2 < 0) = false := decide_eq_false (by omega)
              simp [riseF, this]
            go_wp2
            go_ret
            exact ⟨by first | exact rfl | exact (congrArg (fun b => Ending.returned (Value.bool b)) hr).symm, HB5.out⟩
          · have u0 : decide ((0 : Int) ≤ q) = false := decide_eq_false hq
            have HE4 : RowKit.Hid (riseF none (Vs.map (·.1)) = riseF (some (i1, i2)) ((Vs.drop (j + 1)).map (·.1))) := Lib.hid (by
              rw [HE3.out]
              have h1 := Gq.out
              have : decide (ordI la1 la2 i1 i2 < 0) = true := decide_eq_true (by omega)
              simp only [riseF, hm, this, Bool.true_and])
            have c0 := HX5.out.cell (i := 0) rfl
            have c1 := HX5.out.cell (i := 1) rfl
            have d0 := HW5.out.cell (i := 0) rfl
            have d1 := HW5.out.cell (i := 1) rfl
            have f0 := HW5.out.free 0
            have f1 := HW5.out.free 1
            have HW6 : RowKit.Hid (Whole ((w5.setCell ⟨b0, 0, none⟩ (.int .i64 i1)).setCell ⟨b0, 1, none⟩ (.int .i64 i2)) b0 41 [.int .i64 i1, .int .i64 i2]) := Lib.hid ((HW5.out.set_ 0 (.int .i64 i1)).set_ 1 (.int .i64 i2))
            have HB6 : RowKit.Hid (Below w.heap.size w ((w5.setCell ⟨b0, 0, none⟩ (.int .i64 i1)).setCell ⟨b0, 1, none⟩ (.int .i64 i2))) := Lib.hid ((HB5.out.setCell (by rw [Gb0.out]; exact Nat.le_refl _) _).setCell (by rw [Gb0.out]; exact Nat.le_refl _) _)
            go_wp2
            go_roundw
            case rel => exact ⟨j + 1, some (i1, i2), (i1, i2), by omega, by go_num, by simp, fun y h => (Option.some.inj h).symm, HW6, HB6, HE4⟩
            case measure => simp [intOf]; omega
    · obtain rfl : n = j := by omega
      have hr : riseF none (Vs.map (·.1)) = true := by
        rw [HE.out, List.drop_eq_nil_of_le (by have := Hl.out; omega)]
        cases o <;> rfl
      go_wp2
      go_ret
      exact ⟨by first | exact rfl | exact (congrArg (fun b => Ending.returned (Value.bool b)) hr).symm, HB.out⟩
set_option maxRecDepth 100000 in
theorem nameE (v : EC) (w : World) : Calls Tryz.prog 46 #[.agg (eC v).toArray] w fun e w' => e = .returned (.agg #[.int .i64 v.1.1, .int .i64 v.1.2]) ∧ Below w.heap.size w w' := by
  obtain ⟨⟨i1, i2⟩, lb, at_⟩ := v
  show Calls Tryz.prog 46 #[.agg #[.int .i64 i1, .int .i64 i2, .string lb, .int .i64 at_]] w _
  go_enter Tryz.func46, Tryz.ntmps46
  go_wp2
  have hW := Whole.new_ (w.alloc (.cells (#[.int .i64 i1, .int .i64 i2, .string lb, .int .i64 at_]) 43)) 41 [.int .i64 i1, .int .i64 i2]
  simp only [World.size_alloc] at hW
  refine ret_whole rfl (w.heap.size + 1) rfl hW Tryz.underlying41 rfl (by kernel_rfl) rfl ?_
  exact ⟨rfl, by first | exact below2 _ _ _ | exact (below2 _ _ _).setCell (by simp) _ | exact ((below2 _ _ _).setCell (by simp) _).setCell (by simp) _⟩
set_option maxRecDepth 100000 in
theorem labelE (v : EC) (w : World) : Calls Tryz.prog 52 #[.agg (eC v).toArray] w fun e w' => e = .returned (.bool (mayL v.2.1)) ∧ Below w.heap.size w w' := by
  obtain ⟨⟨i1, i2⟩, lb, at_⟩ := v
  show Calls Tryz.prog 52 #[.agg #[.int .i64 i1, .int .i64 i2, .string lb, .int .i64 at_]] w fun e w' => e = .returned (.bool (mayL lb)) ∧ Below w.heap.size w w'
  go_enter Tryz.func52, Tryz.ntmps52
  go_wp2_with fail
  refine (maylabel_any lb _).mono ?_
  rintro e w3 ⟨rfl, hb⟩
  go_wp2
  go_ret
  exact ⟨rfl, below_after1 hb⟩
set_option maxRecDepth 100000 in
theorem attrE (v : EC) (w : World) : Calls Tryz.prog 54 #[.agg (eC v).toArray] w fun e w' => e = .returned (.bool (mayA v.2.2)) ∧ Below w.heap.size w w' := by
  obtain ⟨⟨i1, i2⟩, lb, at_⟩ := v
  show Calls Tryz.prog 54 #[.agg #[.int .i64 i1, .int .i64 i2, .string lb, .int .i64 at_]] w fun e w' => e = .returned (.bool (mayA at_)) ∧ Below w.heap.size w w'
  go_enter Tryz.func54, Tryz.ntmps54
  go_wp2_with fail
  refine (mayattr_any at_ _).mono ?_
  rintro e w3 ⟨rfl, hb⟩
  go_wp2
  go_ret
  exact ⟨rfl, below_after1 hb⟩
set_option maxRecDepth 100000 in
set_option maxHeartbeats 2000000 in
theorem riseE (A : Option Addr) (n c : Nat) (Vs : List EC) (w : World) (h : RdS w w.heap.size 4 A n c (rowsV eC Vs)) (hn : n ≤ 1000000) :
    Calls Tryz.prog 45 #[.slice A n c, .func (.func 46) #[] #[]] w fun e w' => e = .returned (.bool (riseF none (Vs.map (·.1)))) ∧ Below w.heap.size w w' := by
  have hl := h.rlen eC_len (by decide)
  have H := Lib.hid h
  have Hl := Lib.hid hl
  clear h hl
  go_enter Tryz.func45, Tryz.ntmps45
  go_wp2
  obtain ⟨W0, gW0⟩ : ∃ z, w.alloc (.cells #[.int .i64 0, .int .i64 0] 41) = z := ⟨_, rfl⟩
  obtain ⟨b0, gb0⟩ : ∃ z, w.heap.size = z := ⟨_, rfl⟩
  have hW : Whole (w.alloc (.cells #[.int .i64 0, .int .i64 0] 41)) w.heap.size 41 [.int .i64 0, .int .i64 0] := Whole.new_ w 41 [_, _]
  have HB0 : RowKit.Hid (Below w.heap.size w W0) := Lib.hid (by rw [← gW0]; exact below1 _ _)
  rw [gW0, gb0] at hW
  have HW0 := Lib.hid hW
  have Gb0 := Lib.hid gb0
  rw [gW0, gb0]
  clear hW gW0 gb0
  go_loopw [11] (fun si wr => ∃ (j : Nat) (o : Option (Int × Int)) (la : Int × Int), j ≤ n ∧ si = .int .i64 j ∧ (o = none ↔ j = 0) ∧ (∀ y, o = some y → y = la) ∧ RowKit.Hid (Whole wr b0 41 [.int .i64 la.1, .int .i64 la.2]) ∧ RowKit.Hid (Below w.heap.size w wr) ∧ RowKit.Hid (riseF none (Vs.map (·.1)) = riseF o ((Vs.drop j).map (·.1)))) (fun si _ => n - (intOf si).toNat)
  case atStart => exact ⟨0, none, (0, 0), by omega, rfl, by simp, fun y h => (by cases h), HW0, HB0, Lib.hid rfl⟩
  case round =>
    clear HW0 HB0
    obtain ⟨j, o, la, hj, rfl, ho, hla, HW, HB, HE⟩ := hrel
    obtain ⟨la1, la2⟩ := la
    dsimp only at HW
    by_cases hjn : j < n
    · obtain ⟨wo, gwo⟩ : ∃ z, wr = z := ⟨_, rfl⟩
      rw [gwo] at HW HB ⊢
      clear gwo
      obtain ⟨v, hx⟩ : ∃ v, Vs[j]? = some v := ⟨_, List.getElem?_eq_getElem (by have := Hl.out; omega)⟩
      have hdr : (Vs.drop j).map (·.1) = v.1 :: (Vs.drop (j + 1)).map (·.1) := by
        rw [List.drop_eq_getElem_cons (List.getElem?_eq_some_iff.1 hx).1, (List.getElem?_eq_some_iff.1 hx).2]; rfl
      have HE2 := HE.out
      rw [hdr] at HE2
      have HE3 := Lib.hid HE2
      obtain ⟨bb, off, rfl, hbB, hpl⟩ := H.out.place eC_len (by decide) (by omega)
      have hbw := HB.out
      have q0 := hpl j _ hx 0 _ rfl
      have q1 := hpl j _ hx 1 _ rfl
      have q2 := hpl j _ hx 2 _ rfl
      have q3 := hpl j _ hx 3 _ rfl
      simp only [Addr.add_lit, Nat.add_zero] at q0 q1 q2 q3
      have l0 := (hbw.cell (p := ⟨bb, off + j * 4, none⟩) hbB).trans q0
      have l1 := (hbw.cell (p := ⟨bb, off + j * 4 + 1, none⟩) hbB).trans q1
      have l2 := (hbw.cell (p := ⟨bb, off + j * 4 + 2, none⟩) hbB).trans q2
      have l3 := (hbw.cell (p := ⟨bb, off + j * 4 + 3, none⟩) hbB).trans q3
      have HbB := Lib.hid hbB
      have hnm := fun W => nameE v W
      obtain ⟨⟨i1, i2⟩, lb, at_⟩ := v
      have HNm := Lib.hid hnm
      clear hx hdr HE2 hpl hbw q0 q1 q2 q3 hnm hbB HE
      go_wp2_with fail
      refine (HNm.out _).mono ?_
      rintro e w3 ⟨rfl, hb3⟩
      have HB3 : RowKit.Hid (Below w.heap.size w w3) := Lib.hid (bel_bl (bel_al HB.out _) hb3)
      have HW3 : RowKit.Hid (Whole w3 b0 41 [.int .i64 la1, .int .i64 la2]) := Lib.hid ((HW.out.below (below1 wo _)).below hb3)
      clear hb3 l0 l1 l2 l3
      go_wp2_with fail
      refine (may_any i1 i2 _).mono ?_
      rintro e w4 ⟨rfl, hb4⟩
      have HB4 : RowKit.Hid (Below w.heap.size w w4) := Lib.hid (bel_bl (bel_al HB3.out _) hb4)
      have HW4 : RowKit.Hid (Whole w4 b0 41 [.int .i64 la1, .int .i64 la2]) := Lib.hid ((HW3.out.below (below1 w3 _)).below hb4)
      have HX4 : RowKit.Hid (Whole w4 w3.heap.size 41 [.int .i64 i1, .int .i64 i2]) := Lib.hid ((Whole.new_ w3 41 [.int .i64 i1, .int .i64 i2]).below hb4)
      obtain ⟨b8, gb8⟩ : ∃ z, w3.heap.size = z := ⟨_, rfl⟩
      rw [gb8] at HX4 ⊢
      have hne : b0 ≠ b8 := by
        have := HW3.out.lt
        omega
      clear hb4 gb8 HW3 HB3
      cases hm : mayI i1 i2 with
      | false =>
        have hr : riseF none (Vs.map (·.1)) = false := by rw [HE3.out]; simp [riseF, hm]
        go_wp2
        go_ret
        exact ⟨by first | exact rfl | exact (congrArg (fun b => Ending.returned (Value.bool b)) hr).symm, HB4.out⟩
      | true =>
        rcases Nat.eq_zero_or_pos j with rfl | hj0
        · obtain rfl : o = none := ho.2 rfl
          have HE4 : RowKit.Hid (riseF none (Vs.map (·.1)) = riseF (some (i1, i2)) ((Vs.drop (0 + 1)).map (·.1))) := Lib.hid (by rw [HE3.out]; simp [riseF, hm])
          have c0 := HX4.out.cell (i := 0) rfl
          have c1 := HX4.out.cell (i := 1) rfl
          have d0 := HW4.out.cell (i := 0) rfl
          have d1 := HW4.out.cell (i := 1) rfl
          have f0 := HW4.out.free 0
          have f1 := HW4.out.free 1
          have HW5 : RowKit.Hid (Whole ((w4.setCell ⟨b0, 0, none⟩ (.int .i64 i1)).setCell ⟨b0, 1, none⟩ (.int .i64 i2)) b0 41 [.int .i64 i1, .int .i64 i2]) := Lib.hid ((HW4.out.set_ 0 (.int .i64 i1)).set_ 1 (.int .i64 i2))
          have HB5 : RowKit.Hid (Below w.heap.size w ((w4.setCell ⟨b0, 0, none⟩ (.int .i64 i1)).setCell ⟨b0, 1, none⟩ (.int .i64 i2))) := Lib.hid ((HB4.out.setCell (by rw [Gb0.out]; exact Nat.le_refl _) _).setCell (by rw [Gb0.out]; exact Nat.le_refl _) _)
          rw [show ((0 : Nat) : Int) = 0 from rfl]
          go_wp2
          go_roundw
          case rel => exact ⟨0 + 1, some (i1, i2), (i1, i2), by omega, by go_num, by simp, fun y h => (Option.some.inj h).symm, HW5, HB5, HE4⟩
          case measure => simp [intOf]; omega
        · obtain ⟨y, rfl⟩ : ∃ y, o = some y := by
            cases o with
            | none => have := ho.1 rfl; omega
            | some y => exact ⟨y, rfl⟩
          obtain rfl := hla y rfl
          have c0 := HX4.out.cell (i := 0) rfl
          have c1 := HX4.out.cell (i := 1) rfl
          have d0 := HW4.out.cell (i := 0) rfl
          have d1 := HW4.out.cell (i := 1) rfl
          have e0 : decide ((0 : Int) < (j : Int)) = true := decide_eq_true (by omega)
          obtain ⟨q, gq⟩ : ∃ q, ordI la1 la2 i1 i2 = q := ⟨_, rfl⟩
          have hor := fun W => order_any la1 la2 i1 i2 W
          rw [gq] at hor
          have HOr := Lib.hid hor
          have Gq := Lib.hid gq
          clear hor gq
          go_wp2_with fail
          refine (HOr.out _).mono ?_
          rintro e w5 ⟨rfl, hb5⟩
          have HB5 : RowKit.Hid (Below w.heap.size w w5) := Lib.hid (bel_bl HB4.out hb5)
          have HW5 := Lib.hid (HW4.out.below hb5)
          have HX5 := Lib.hid (HX4.out.below hb5)
          clear hb5 c0 c1 d0 d1
          by_cases hq : 0 ≤ q
          · have u0 : decide ((0 : Int) ≤ q) = true := decide_eq_true hq
            have hr : riseF none (Vs.map (·.1)) = false := by
              rw [HE3.out]
              have h1 := Gq.out
              have : decide (ordI la1 la2 i1 i2 < 0) = false := decide_eq_false (by omega)
              simp [riseF, this]
            go_wp2
            go_ret
            exact ⟨by first | exact rfl | exact (congrArg (fun b => Ending.returned (Value.bool b)) hr).symm, HB5.out⟩
          · have u0 : decide ((0 : Int) ≤ q) = false := decide_eq_false hq
            have HE4 : RowKit.Hid (riseF none (Vs.map (·.1)) = riseF (some (i1, i2)) ((Vs.drop (j + 1)).map (·.1))) := Lib.hid (by
              rw [HE3.out]
              have h1 := Gq.out
              have : decide (ordI la1 la2 i1 i2 < 0) = true := decide_eq_true (by omega)
              simp only [riseF, hm, this, Bool.true_and])
            have c0 := HX5.out.cell (i := 0) rfl
            have c1 := HX5.out.cell (i := 1) rfl
            have d0 := HW5.out.cell (i := 0) rfl
            have d1 := HW5.out.cell (i := 1) rfl
            have f0 := HW5.out.free 0
            have f1 := HW5.out.free 1
            have HW6 : RowKit.Hid (Whole ((w5.setCell ⟨b0, 0, none⟩ (.int .i64 i1)).setCell ⟨b0, 1, none⟩ (.int .i64 i2)) b0 41 [.int .i64 i1, .int .i64 i2]) := Lib.hid ((HW5.out.set_ 0 (.int .i64 i1)).set_ 1 (.int .i64 i2))
            have HB6 : RowKit.Hid (Below w.heap.size w ((w5.setCell ⟨b0, 0, none⟩ (.int .i64 i1)).setCell ⟨b0, 1, none⟩ (.int .i64 i2))) := Lib.hid ((HB5.out.setCell (by rw [Gb0.out]; exact Nat.le_refl _) _).setCell (by rw [Gb0.out]; exact Nat.le_refl _) _)
            go_wp2
            go_roundw
            case rel => exact ⟨j + 1, some (i1, i2), (i1, i2), by omega, by go_num, by simp, fun y h => (Option.some.inj h).symm, HW6, HB6, HE4⟩
            case measure => simp [intOf]; omega
    · obtain rfl : n = j := by omega
      have hr : riseF none (Vs.map (·.1)) = true := by
        rw [HE.out, List.drop_eq_nil_of_le (by have := Hl.out; omega)]
        cases o <;> rfl
      go_wp2
      go_ret
      exact ⟨by first | exact rfl | exact (congrArg (fun b => Ending.returned (Value.bool b)) hr).symm, HB.out⟩
end Go.Proofs.YtahbfdhjgnlmdaaGreat
