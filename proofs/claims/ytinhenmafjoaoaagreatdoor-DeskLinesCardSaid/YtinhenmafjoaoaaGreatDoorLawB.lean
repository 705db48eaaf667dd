/- Words for all layers, in one text. -/
import Derived.ProofKit
import Derived.Below
import Derived.Carry
import Derived.WideKeyArgs
import Derived.OpenShut
import Derived.Deep.Slices
import Derived.Test.YtinhenmafjoaoaaGreatDoorProg
import Derived.KernelRfl
import Derived.Test.YtinhenmafjoaoaaGreatDoorBase

/- What a law's row asks behind the walk, once for all laws: where the call answers true and leaves all that was there as it was, the row's post holds, whatever the arguments' types. -/
namespace Go.Proofs.YtinhenmafjoaoaaGreatDoor
open Go.ChangeShapes Go.WideShapes Go.ChangeAt Go.RowKit

section
variable {H : Type} {enc : TypeId × Value → H} {P : Program}

/-- A row of arguments reads as it did where below the old heap's end nothing has turned. -/
theorem trodAll_stays (hl : laidOutB P = true) {W W' : World} (hb : Below W.heap.size W W') : ∀ (ts : List TypeId) (vs : List Value) (ds : List (DataW H)) (ps : List MemPlace) (sp : Nat → Bool),
    (∀ t ∈ ts, P.readableRec t = true ∧ t < P.types.size) → DataW.TrodAll enc P W 0 (fun _ => true) true ts vs ds ps →
    (∀ p ∈ ps, p.block < W.heap.size) → (∀ p ∈ ps, sp p.block = true) → DataW.TrodAll enc P W' 0 sp true ts vs ds ps
  | [], _, _, _, _, _, h, _, _ => by
    obtain ⟨rfl, rfl, rfl⟩ := trodAll_nil h
    exact rfl
  | t :: ts, vs, ds, ps, sp, ht, h, hlt, hs => by
    obtain ⟨v, vs', d, ds', p, q, rfl, rfl, rfl, h1, h2⟩ := trodAll_cons h
    have ⟨hr, hrow⟩ := ht t (by simp)
    refine ⟨p, q, WideElems.Trod_stays hl hr hrow h1 (fun x hx => hb.same (hlt x (by simp [hx]))) (fun x hx => hs x (by simp [hx])), ?_, rfl⟩
    exact trodAll_stays hl hb ts vs' ds' q sp (fun t' h' => ht t' (by simp [h'])) h2 (fun x hx => hlt x (by simp [hx])) (fun x hx => hs x (by simp [hx]))

/-- A law's post. -/
theorem law_post {f : Func} {s : ChangeSpec} {tb : TypeId} {W W' : World} {args : Array Value} {ds gs : List (DataW H)} {before : List MemPlace}
    (hl : laidOutB P = true) (hts : f.params.toList.all (fun t => P.readableRec t && decide (t < P.types.size)) = true) (hr : f.resultTypes = #[tb]) (htb : P.underlying tb = some .bool) (hv : s.vars = [])
    (hfn : (s.fn H (ds ++ gs)).results = [.lit (.bool true)] ∧ (s.fn H (ds ++ gs)).args = ds ∧ (s.fn H (ds ++ gs)).vars = [])
    (hW : DataW.Whole enc P f.params.toList s.vars false W args.toList ds gs before) (hb : Below W.heap.size W W') :
    s.post enc P f false true false false W args (.bool true) W' := by
  have hts' : ∀ t ∈ f.params.toList, P.readableRec t = true ∧ t < P.types.size := fun t ht => by
    have h := List.all_eq_true.1 hts t ht
    simpa using h
  have hlt : ∀ p ∈ before, p.block < W.heap.size := fun p hp => hW.lt p hp
  have hW' := hW
  obtain ⟨p, q, hA, hV, rfl, hfz, hnd⟩ := hW
  rw [hv] at hV
  obtain ⟨rfl, rfl⟩ := trodVars_none hV
  obtain ⟨e1, e2, e3⟩ := hfn
  refine ⟨ds, [], p ++ [], [], p, [], hW', ?_, ?_, ?_, ?_, fun h => by cases h⟩
  · rw [e1, hr]
    exact trodAll_mk1 (shut_bool htb _)
  · rw [e2]
    exact trodAll_stays hl hb _ _ _ _ _ hts' hA (fun x hx => hlt x (by simp [hx])) (fun x hx => by simpa using hlt x (by simp [hx]))
  · rw [e3, hv]
    rfl
  · exact World.keptBut_mono (fun x hx => ⟨hx, by simpa using hx⟩) (hb.frame (· ∈ p ++ []))
end
end Go.Proofs.YtinhenmafjoaoaaGreatDoor

/- A law's arguments opened: types that are flat rows of int; what such a value is. -/
namespace Go.Proofs.YtinhenmafjoaoaaGreatDoor
open Go.ChangeShapes Go.WideShapes Go.ChangeAt Go.RowKit

section
variable {H : Type} {P : Program}

def In64 (n : Int) : Prop := -9223372036854775808 ≤ n ∧ n ≤ 9223372036854775807
def ivs (ns : List Int) : List Value := ns.map (Value.int .i64)

/-- Type t is a row of k cells, each an int. -/
def Ints (H : Type) (P : Program) (t : TypeId) (k : Nat) : Prop :=
  ∀ (enc : TypeId × Value → H) (w : World) (base : Nat) (spare : Nat → Bool) (held : Bool) (fuel : Nat) (cs : List Value) (x : DataW H × List MemPlace),
    DataW.trod enc P w base spare held fuel t cs = some x → ∃ ns : List Int, ns.length = k ∧ cs = ivs ns ∧ (∀ n ∈ ns, In64 n)

theorem ints_int {t : TypeId} (ht : P.underlying t = some (.int .i64)) : Ints H P t 1 := by
  intro enc w base spare held fuel cs x h
  obtain ⟨n, rfl, _, hw⟩ := DataW.trod_int ht h
  exact ⟨[n], rfl, rfl, fun m hm => by
    obtain rfl := List.mem_singleton.1 hm
    exact bounds_i64 hw⟩

theorem ints_struct2 {t : TypeId} {f0 f1 : Field} {k0 k1 k : Nat} (ht : P.underlying t = some (.struct #[f0, f1])) (h0 : Ints H P f0.type k0) (h1 : Ints H P f1.type k1)
    (o0 : f0.offset = 0) (o1 : f1.offset = k0) (c0 : P.cellsOf f0.type = k0) (c1 : P.cellsOf f1.type = k1) (c : P.cellsOf t = k) (hk : k = k0 + k1) : Ints H P t k := by
  intro enc w base spare held fuel cs x h
  obtain ⟨xs, n, _, _, hl, hlen, hg⟩ := DataW.trod_struct ht h
  have e0 := hg 0 f0 rfl
  have e1 := hg 1 f1 rfl
  rw [List.getElem?_eq_getElem (by rw [hlen]; simp)] at e0 e1
  obtain ⟨n0, l0, q0, w0⟩ := h0 _ _ _ _ _ _ _ _ e0
  obtain ⟨n1, l1, q1, w1⟩ := h1 _ _ _ _ _ _ _ _ e1
  rw [o0, c0, List.drop_zero] at q0
  rw [o1, c1] at q1
  refine ⟨n0 ++ n1, by simp [l0, l1, hk], ?_, fun m hm => ?_⟩
  · have h2 : (cs.drop k0).take k1 = cs.drop k0 := List.take_of_length_le (by rw [List.length_drop]; omega)
    rw [h2] at q1
    rw [← List.take_append_drop k0 cs, q0, q1, ivs, ivs, ivs, List.map_append]
  · rcases List.mem_append.1 hm with hm | hm
    · exact w0 m hm
    · exact w1 m hm

theorem ints_rows {α : Type} (e k : Nat) (p : α → Prop) (f : α → Value) : ∀ (n : Nat) (cs : List Value), cs.length = n * k →
    (∀ i, i < n → ∃ ns : List α, ns.length = k ∧ (cs.drop (i * k)).take k = ns.map f ∧ ∀ m ∈ ns, p m) → ∃ ns : List α, ns.length = n * k ∧ cs = ns.map f ∧ ∀ m ∈ ns, p m
  | 0, cs, hl, _ => ⟨[], by simp, List.eq_nil_of_length_eq_zero (by simpa using hl), fun m hm => by cases hm⟩
  | n + 1, cs, hl, h => by
    obtain ⟨n0, l0, q0, w0⟩ := h 0 (by omega)
    obtain ⟨n1, l1, q1, w1⟩ := ints_rows e k p f n (cs.drop k) (by rw [List.length_drop, hl, Nat.succ_mul]; omega) (fun i hi => by
      have := h (i + 1) (by omega)
      rwa [List.drop_drop, show k + i * k = (i + 1) * k by rw [Nat.succ_mul]; omega])
    rw [Nat.zero_mul, List.drop_zero] at q0
    refine ⟨n0 ++ n1, by rw [List.length_append, l0, l1, Nat.succ_mul]; omega, ?_, fun m hm => ?_⟩
    · rw [← List.take_append_drop k cs, q0, q1, List.map_append]
    · rcases List.mem_append.1 hm with hm | hm
      · exact w0 m hm
      · exact w1 m hm

theorem ints_array {t e : TypeId} {n k m : Nat} (ht : P.underlying t = some (.array n e)) (he : Ints H P e k) (ce : P.cellsOf e = k) (ct : P.cellsOf t = m) (hm : m = n * k) : Ints H P t m := by
  intro enc w base spare held fuel cs x h
  obtain ⟨xs, q, _, _, hl, hlen, hg⟩ := DataW.trod_array ht h
  subst hm
  refine ints_rows 0 k In64 (Value.int .i64) n cs (by omega) fun i hi => ?_
  have h1 := hg i hi
  rw [List.getElem?_eq_getElem (by omega), ce] at h1
  exact he _ _ _ _ _ _ _ _ h1

theorem open_struct_ints {w W : World} {t : TypeId} {fs : Array Field} {k : Nat} {r : Reach} {b0 base : Nat} {enc : TypeId × Value → H} {spare : Nat → Bool} {held : Bool} {v : Value} {d : DataW H} {ps : List MemPlace}
    (hi : Ints H P t k) (ht : P.underlying t = some (.struct fs)) (hv : Value.okWide P w r b0 t v) (hd : DataW.Trod enc P W base spare held t v d ps) :
    ∃ ns : List Int, ns.length = k ∧ v = .agg (ivs ns).toArray ∧ ∀ n ∈ ns, In64 n := by
  simp only [Value.okWide, ht] at hv
  obtain ⟨cs, rfl, _, _⟩ := hv
  obtain ⟨fuel, hf⟩ := hd
  obtain ⟨ns, l, q, wf⟩ := hi _ _ _ _ _ _ _ _ hf
  refine ⟨ns, l, ?_, wf⟩
  simp only [Value.cells] at q
  rw [← q, Array.toArray_toList]

theorem open_array_ints {w W : World} {t e : TypeId} {n k : Nat} {r : Reach} {b0 base : Nat} {enc : TypeId × Value → H} {spare : Nat → Bool} {held : Bool} {v : Value} {d : DataW H} {ps : List MemPlace}
    (hi : Ints H P t k) (ht : P.underlying t = some (.array n e)) (hv : Value.okWide P w r b0 t v) (hd : DataW.Trod enc P W base spare held t v d ps) :
    ∃ ns : List Int, ns.length = k ∧ v = .agg (ivs ns).toArray ∧ ∀ n ∈ ns, In64 n := by
  simp only [Value.okWide, ht] at hv
  obtain ⟨cs, rfl, _, _⟩ := hv
  obtain ⟨fuel, hf⟩ := hd
  obtain ⟨ns, l, q, wf⟩ := hi _ _ _ _ _ _ _ _ hf
  refine ⟨ns, l, ?_, wf⟩
  simp only [Value.cells] at q
  rw [← q, Array.toArray_toList]
end
end Go.Proofs.YtinhenmafjoaoaaGreatDoor

/- The laws' types as rows of int; what the row's shutting asks of the program. -/
namespace Go.Proofs.YtinhenmafjoaoaaGreatDoor
open Go.ChangeShapes Go.WideShapes Go.ChangeAt Go.RowKit

theorem Tryz.own : ownKnob Tryz.prog.godebug = none := by kernel_rfl
theorem Tryz.laidOut : laidOutB Tryz.prog = true := by kernel_rfl

theorem ints_i (H : Type) : Ints H Tryz.prog 3 1 := ints_int Tryz.underlying3
theorem ints_id (H : Type) : Ints H Tryz.prog 236 2 := ints_struct2 Tryz.underlying236 (ints_i H) (ints_i H) rfl rfl (by kernel_rfl) (by kernel_rfl) (by kernel_rfl) rfl
theorem ints_dart (H : Type) : Ints H Tryz.prog 244 3 := ints_struct2 Tryz.underlying244 (ints_id H) (ints_i H) rfl rfl (by kernel_rfl) (by kernel_rfl) (by kernel_rfl) rfl
theorem ints_dart2 (H : Type) : Ints H Tryz.prog 337 6 := ints_array Tryz.underlying337 (ints_dart H) (by kernel_rfl) (by kernel_rfl) rfl
end Go.Proofs.YtinhenmafjoaoaaGreatDoor

/- A law's slice argument opened: its elements are rows of ints, or bytes. -/
namespace Go.Proofs.YtinhenmafjoaoaaGreatDoor
open Go.ChangeShapes Go.WideShapes Go.ChangeAt Go.RowKit Go.Deep

section
variable {H : Type} {P : Program}

/-- Type e is a row of k cells, each of them f of a number that fits. -/
def Rows_ (H : Type) (P : Program) (f : Int → Value) (p : Int → Prop) (t : TypeId) (k : Nat) : Prop :=
  ∀ (enc : TypeId × Value → H) (w : World) (base : Nat) (spare : Nat → Bool) (held : Bool) (fuel : Nat) (cs : List Value) (x : DataW H × List MemPlace),
    DataW.trod enc P w base spare held fuel t cs = some x → ∃ ns : List Int, ns.length = k ∧ cs = ns.map f ∧ (∀ n ∈ ns, p n)

theorem rows_of_ints {t : TypeId} {k : Nat} (h : Ints H P t k) : Rows_ H P (Value.int .i64) In64 t k := h
theorem rows_u8 {t : TypeId} (ht : P.underlying t = some (.int .u8)) : Rows_ H P u8v (fun n => 0 ≤ n ∧ n ≤ 255) t 1 := by
  intro enc w base spare held fuel cs x h
  obtain ⟨n, rfl, _, hw⟩ := DataW.trod_int ht h
  exact ⟨[n], rfl, rfl, fun m hm => by
    obtain rfl := List.mem_singleton.1 hm
    exact bounds_u8 hw⟩

theorem rows_build (f : Int → Value) (p : Int → Prop) (k : Nat) (cell : Nat → Option Value) : ∀ n : Nat,
    (∀ i, i < n → ∃ ns : List Int, ns.length = k ∧ (∀ j u, (ns.map f)[j]? = some u → cell (i * k + j) = some u) ∧ ∀ m ∈ ns, p m) →
    ∃ ns : List Int, ns.length = n * k ∧ (∀ j u, (ns.map f)[j]? = some u → cell j = some u) ∧ ∀ m ∈ ns, p m
  | 0, _ => ⟨[], by simp, fun j u h => (by simp at h), fun m h => (by cases h)⟩
  | n + 1, h => by
    obtain ⟨n0, l0, q0, w0⟩ := rows_build f p k cell n (fun i hi => h i (by omega))
    obtain ⟨n1, l1, q1, w1⟩ := h n (by omega)
    refine ⟨n0 ++ n1, by rw [List.length_append, l0, l1, Nat.succ_mul], fun j u hj => ?_, fun m hm => ?_⟩
    · rw [List.map_append] at hj
      rcases Nat.lt_or_ge j (n * k) with hlt | hge
      · rw [List.getElem?_append_left (by simpa [l0] using hlt)] at hj
        exact q0 j u hj
      · rw [List.getElem?_append_right (by simpa [l0] using hge)] at hj
        have := q1 _ u hj
        rw [List.length_map, l0] at this
        rwa [show n * k + (j - n * k) = j by omega] at this
    · rcases List.mem_append.1 hm with hm | hm
      · exact w0 m hm
      · exact w1 m hm

theorem open_cell_rows {W : World} {t e : TypeId} {k : Nat} {f : Int → Value} {p : Int → Prop} {enc : TypeId × Value → H} {held : Bool} {v : Value} {fuel : Nat} {y : DataW H × List MemPlace}
    (hi : Rows_ H P f p e k) (ht : P.underlying t = some (.slice e)) (hc : P.cellsOf e = k) (hk : 0 < k) (hf : DataW.trod enc P W 0 (fun _ => true) held fuel t [v] = some y) :
    ∃ (A : Option Addr) (n c : Nat) (ns : List Int), v = .slice A n c ∧ c ≤ maxLen ∧ (∀ x ∈ ns, p x) ∧ RdS W W.heap.size k A n c (ns.map f) := by
  rcases open_slice ht hf with ⟨hcs, _⟩ | ⟨a, n, c, m, q, D, Pl, hcs, hb, hl, hm, hmm, hx, hel⟩
  · have hv' : v = .slice none 0 0 := by simpa using hcs
    rw [hv']
    exact ⟨none, 0, 0, [], rfl, Nat.zero_le _, fun x hx => (by cases hx), ⟨by simp, fun _ => ⟨rfl, rfl⟩, Nat.le_refl _, fun a ha => (by cases ha), fun a ha => (by cases ha)⟩⟩
  · have hv' : v = .slice (some a) n c := by simpa using hcs
    rw [hv']
    have hmc : m = c := by simpa using hmm
    clear hmm
    subst m
    have hns : ∃ ns : List Int, ns.length = n * k ∧ (∀ j u, (ns.map f)[j]? = some u → W.cell? (a.add j) = some u) ∧ ∀ m ∈ ns, p m := rows_build f p k (fun j => W.cell? (a.add j)) n (fun i him => by
      obtain ⟨cs', h1, h2⟩ := hel i (by omega)
      obtain ⟨ns, l, rfl, hp⟩ := hi _ _ _ _ _ _ _ _ h2
      rw [hc] at h1
      obtain ⟨_, hln, hat⟩ := World.cells?_some h1
      refine ⟨ns, l, fun j u hu => ?_, hp⟩
      have hj : j < k := by
        rcases Nat.lt_or_ge j k with h3 | h3
        · exact h3
        · rw [List.getElem?_eq_none (by simpa [l] using h3)] at hu
          cases hu
      have := hat j hj
      rw [← add_add, this, hu])
    obtain ⟨ns, hlen, hcell, hp⟩ := hns
    refine ⟨some a, n, c, ns, rfl, hm, hp, ⟨by simpa using hlen, fun e => (by cases e), hl, fun a' ha hn => ?_, fun a' ha j u hu => ?_⟩⟩
    · obtain rfl := Option.some.inj ha
      have h0 : 0 < n * k := Nat.mul_pos hn hk
      have hne : (ns.map f)[0]? = some (f (ns[0]'(by rw [hlen]; exact h0))) := by simp [hlen, h0]
      have := World.block_lt_of_cell? W _ (hcell 0 _ hne)
      simpa [Addr.add] using this
    · obtain rfl := Option.some.inj ha
      exact hcell j u hu
theorem open_slice_rows {W w : World} {t e : TypeId} {k : Nat} {f : Int → Value} {p : Int → Prop} {r : Reach} {b0 : Nat} {enc : TypeId × Value → H} {held : Bool} {v : Value} {d : DataW H} {ps : List MemPlace}
    (hi : Rows_ H P f p e k) (ht : P.underlying t = some (.slice e)) (hc : P.cellsOf e = k) (hk : 0 < k) (hv : Value.okWide P w r b0 t v) (hd : DataW.Trod enc P W 0 (fun _ => true) held t v d ps) :
    ∃ (A : Option Addr) (n c : Nat) (ns : List Int), v = .slice A n c ∧ c ≤ maxLen ∧ (∀ x ∈ ns, p x) ∧ RdS W W.heap.size k A n c (ns.map f) := by
  obtain ⟨A0, n0, c0, rfl⟩ := okWide_slice ht hv
  obtain ⟨fuel, hf⟩ := hd
  exact open_cell_rows hi ht hc hk (y := (d, ps)) (fuel := fuel) hf

theorem names_of_ints : ∀ (n : Nat) (ns : List Int), ns.length = n * 2 → ∃ l : List (Int × Int), ns.map (Value.int .i64) = l.flatMap fun p => [.int .i64 p.1, .int .i64 p.2]
  | 0, ns, h => ⟨[], by rw [List.eq_nil_of_length_eq_zero (l := ns) (by omega)]; rfl⟩
  | n + 1, [], h => by simp at h
  | n + 1, [a], h => by simp at h; omega
  | n + 1, a :: b :: ns, h => by
    obtain ⟨l, hl⟩ := names_of_ints n ns (by simp at h; omega)
    exact ⟨(a, b) :: l, by simp [hl]⟩
end
end Go.Proofs.YtinhenmafjoaoaaGreatDoor

/- A law's arguments opened, by the type: ints, bools, texts, slices, structs of these. -/
namespace Go.Proofs.YtinhenmafjoaoaaGreatDoor
open Go.ChangeShapes Go.WideShapes Go.ChangeAt Go.RowKit Go.Deep

section
variable {H : Type} {P : Program} {α β : Type}

/-- What reads as data at type t is the cells of some a with p. -/
def Row1 (H : Type) (P : Program) (t : TypeId) (f : α → List Value) (p : World → α → Prop) : Prop :=
  ∀ (enc : TypeId × Value → H) (w : World) (held : Bool) (fuel : Nat) (cs : List Value) (x : DataW H × List MemPlace),
    DataW.trod enc P w 0 (fun _ => true) held fuel t cs = some x → ∃ a, cs = f a ∧ p w a

theorem row1_int {t : TypeId} (ht : P.underlying t = some (.int .i64)) : Row1 H P t (fun n : Int => [.int .i64 n]) (fun _ n => In64 n) := by
  intro enc w held fuel cs x h
  obtain ⟨n, rfl, _, hw⟩ := DataW.trod_int ht h
  exact ⟨n, rfl, bounds_i64 hw⟩
theorem row1_u8 {t : TypeId} (ht : P.underlying t = some (.int .u8)) : Row1 H P t (fun n : Int => [u8v n]) (fun _ n => 0 ≤ n ∧ n ≤ 255) := by
  intro enc w held fuel cs x h
  obtain ⟨n, rfl, _, hw⟩ := DataW.trod_int ht h
  exact ⟨n, rfl, bounds_u8 hw⟩
theorem row1_bool {t : TypeId} (ht : P.underlying t = some .bool) : Row1 H P t (fun b : Bool => [.bool b]) (fun _ _ => True) := by
  intro enc w held fuel cs x h
  cases fuel with
  | zero => simp [DataW.trod] at h
  | succ m =>
    unfold DataW.trod at h
    rw [ht] at h
    split at h <;> simp_all
theorem row1_string {t : TypeId} (ht : P.underlying t = some .string) : Row1 H P t (fun s : ByteArray => [.string s]) (fun _ s => s.size ≤ maxLen) := by
  intro enc w held fuel cs x h
  obtain ⟨s, rfl, _, hs⟩ := DataW.trod_string ht h
  exact ⟨s, rfl, hs⟩
theorem Row1.map {t : TypeId} {f : α → List Value} {p : World → α → Prop} (h : Row1 H P t f p) (g : α → β) {f' : β → List Value} {p' : World → β → Prop} (hf : ∀ a, f a = f' (g a)) (hp : ∀ w a, p w a → p' w (g a)) : Row1 H P t f' p' := by
  intro enc w held fuel cs x hx
  obtain ⟨a, rfl, ha⟩ := h enc w held fuel cs x hx
  exact ⟨g a, hf a, hp w a ha⟩

/-- What the fields from cell off on read as. -/
def Fields_ (H : Type) (P : Program) (fs : List Field) (off m : Nat) (g : α → List Value) (q : World → α → Prop) : Prop :=
  ∀ (enc : TypeId × Value → H) (w : World) (held : Bool) (n : Nat) (cs : List Value),
    (∀ fl ∈ fs, ∃ y, DataW.trod enc P w 0 (fun _ => true) held n fl.type ((cs.drop fl.offset).take (P.cellsOf fl.type)) = some y) → ∃ a, (cs.drop off).take m = g a ∧ q w a
theorem fields_nil (off : Nat) : Fields_ H P [] off 0 (fun _ : Unit => []) (fun _ _ => True) := fun _ _ _ _ cs _ => ⟨(), by simp, trivial⟩
theorem fields_cons {fl : Field} {fs : List Field} {off k m : Nat} {f : α → List Value} {p : World → α → Prop} {g : β → List Value} {q : World → β → Prop}
    (h : Row1 H P fl.type f p) (ho : fl.offset = off) (hc : P.cellsOf fl.type = k) (hr : Fields_ H P fs (off + k) m g q) :
    Fields_ H P (fl :: fs) off (k + m) (fun ab : α × β => f ab.1 ++ g ab.2) (fun w ab => p w ab.1 ∧ q w ab.2) := by
  intro enc w held n cs hall
  obtain ⟨y, hy⟩ := hall fl (by simp)
  obtain ⟨a, ha, pa⟩ := h _ _ _ _ _ _ hy
  obtain ⟨b, hb, qb⟩ := hr enc w held n cs (fun fl' h' => hall fl' (by simp [h']))
  rw [ho, hc] at ha
  refine ⟨(a, b), ?_, pa, qb⟩
  show _ = f a ++ g b
  rw [← ha, ← hb, List.take_add, List.drop_drop]
theorem row1_struct {t : TypeId} {fs : List Field} {m : Nat} {g : α → List Value} {q : World → α → Prop} (ht : P.underlying t = some (.struct fs.toArray)) (hc : P.cellsOf t = m) (h : Fields_ H P fs 0 m g q) : Row1 H P t g q := by
  intro enc w held fuel cs x hx
  obtain ⟨xs, n, _, _, hl, hlen, hg⟩ := DataW.trod_struct ht hx
  obtain ⟨a, ha, qa⟩ := h enc w held n cs (fun fl hfl => by
    obtain ⟨i, hi⟩ := List.getElem?_of_mem hfl
    have h1 := hg i fl (by simpa using hi)
    have hlt : i < xs.length := by
      rw [hlen]
      simpa using (List.getElem?_eq_some_iff.1 hi).1
    exact ⟨xs[i], by rw [h1, List.getElem?_eq_getElem hlt]⟩)
  refine ⟨a, ?_, qa⟩
  rw [← ha, List.drop_zero, List.take_of_length_le (by omega)]

theorem row1_rows {e : TypeId} {k : Nat} {f : α → List Value} {p : World → α → Prop} (hi : Row1 H P e f p) (hc : P.cellsOf e = k) (hk : ∀ a, (f a).length = k) (enc : TypeId × Value → H) (W : World) (held : Bool) (a : Addr) (nn : Nat) :
    ∀ n : Nat, (∀ i, i < n → ∃ cs' D, W.cells? 0 (a.add (i * P.cellsOf e)) (P.cellsOf e) = some cs' ∧ DataW.trod enc P W 0 (fun _ => true) held nn e cs' = some D) →
      ∃ l : List α, l.length = n ∧ (∀ j u, (rowsV f l)[j]? = some u → W.cell? (a.add j) = some u) ∧ ∀ x ∈ l, p W x
  | 0, _ => ⟨[], rfl, fun j u h => (by simp [rowsV] at h), fun x h => (by cases h)⟩
  | n + 1, h => by
    obtain ⟨l, hl, hq, hp⟩ := row1_rows hi hc hk enc W held a nn n (fun i hi => h i (by omega))
    obtain ⟨cs', D, h1, h2⟩ := h n (by omega)
    obtain ⟨x, rfl, hx⟩ := hi _ _ _ _ _ _ h2
    rw [hc] at h1
    obtain ⟨_, hln, hat⟩ := World.cells?_some h1
    have hlen : (rowsV f l).length = n * k := by rw [rowsV_length f hk, hl]
    refine ⟨l ++ [x], by simp [hl], fun j u hj => ?_, fun y hy => ?_⟩
    · rw [rowsV_app] at hj
      rcases Nat.lt_or_ge j (n * k) with hlt | hge
      · rw [List.getElem?_append_left (by omega)] at hj
        exact hq j u hj
      · rw [List.getElem?_append_right (by omega), hlen] at hj
        simp only [rowsV, List.append_nil] at hj
        have hjk : j - n * k < k := by
          rcases Nat.lt_or_ge (j - n * k) k with h3 | h3
          · exact h3
          · rw [List.getElem?_eq_none (by rw [hk]; exact h3)] at hj
            cases hj
        have h4 := hat (j - n * k) hjk
        rw [hj, add_add, show n * k + (j - n * k) = j by omega] at h4
        exact h4
    · rcases List.mem_append.1 hy with hy | hy
      · exact hp y hy
      · obtain rfl := List.mem_singleton.1 hy
        exact hx

/-- What a slice reads as. -/
def SlOk (k : Nat) (f : α → List Value) (p : World → α → Prop) (w : World) (s : Option Addr × Nat × Nat × List α) : Prop :=
  s.2.2.1 ≤ maxLen ∧ RdS w w.heap.size k s.1 s.2.1 s.2.2.1 (rowsV f s.2.2.2) ∧ ∀ x ∈ s.2.2.2, p w x
def slCells (s : Option Addr × Nat × Nat × List α) : List Value := [.slice s.1 s.2.1 s.2.2.1]
theorem row1_slice {t e : TypeId} {k : Nat} {f : α → List Value} {p : World → α → Prop} (hi : Row1 H P e f p) (ht : P.underlying t = some (.slice e)) (hc : P.cellsOf e = k) (hk : ∀ a, (f a).length = k) (h0 : 0 < k) :
    Row1 H P t (slCells (α := α)) (SlOk k f p) := by
  intro enc W held fuel cs x hf
  rcases open_slice ht hf with ⟨rfl, _⟩ | ⟨a, n, c, m, q, D, Pl, rfl, hb, hl, hm, hmm, hx, hel⟩
  · exact ⟨(none, 0, 0, []), rfl, Nat.zero_le _, ⟨by simp [rowsV], fun _ => ⟨rfl, rfl⟩, Nat.le_refl _, fun a ha => (by cases ha), fun a ha => (by cases ha)⟩, fun x hx => (by cases hx)⟩
  · have hmc : m = c := by simpa using hmm
    clear hmm
    subst m
    obtain ⟨l, hlen, hcell, hp⟩ := row1_rows hi hc hk enc W held a q n (fun i him => by
      obtain ⟨cs', h1, h2⟩ := hel i (by omega)
      exact ⟨cs', _, h1, h2⟩)
    refine ⟨(some a, n, c, l), rfl, hm, ⟨by rw [rowsV_length f hk, hlen], fun e => (by cases e), hl, fun a' ha hn => ?_, fun a' ha j u hu => ?_⟩, hp⟩
    · obtain rfl := Option.some.inj ha
      have h0' : 0 < (rowsV f l).length := by rw [rowsV_length f hk, hlen]; exact Nat.mul_pos hn h0
      have := World.block_lt_of_cell? W _ (hcell 0 _ (List.getElem?_eq_getElem h0'))
      simpa [Addr.add] using this
    · obtain rfl := Option.some.inj ha
      exact hcell j u hu

theorem open_row1_struct {w W : World} {t : TypeId} {fs : Array Field} {f : α → List Value} {p : World → α → Prop} {r : Reach} {b0 : Nat} {enc : TypeId × Value → H} {held : Bool} {v : Value} {d : DataW H} {ps : List MemPlace}
    (hi : Row1 H P t f p) (ht : P.underlying t = some (.struct fs)) (hv : Value.okWide P w r b0 t v) (hd : DataW.Trod enc P W 0 (fun _ => true) held t v d ps) :
    ∃ a, v = .agg (f a).toArray ∧ p W a := by
  simp only [Value.okWide, ht] at hv
  obtain ⟨cs, rfl, _, _⟩ := hv
  obtain ⟨fuel, hf⟩ := hd
  obtain ⟨a, q, ha⟩ := hi _ _ _ _ _ _ hf
  refine ⟨a, ?_, ha⟩
  simp only [Value.cells] at q
  rw [← q, Array.toArray_toList]
theorem open_row1_slice {w W : World} {t e : TypeId} {k : Nat} {f : α → List Value} {p : World → α → Prop} {r : Reach} {b0 : Nat} {enc : TypeId × Value → H} {held : Bool} {v : Value} {d : DataW H} {ps : List MemPlace}
    (hi : Row1 H P e f p) (ht : P.underlying t = some (.slice e)) (hc : P.cellsOf e = k) (hk : ∀ a, (f a).length = k) (h0 : 0 < k)
    (hv : Value.okWide P w r b0 t v) (hd : DataW.Trod enc P W 0 (fun _ => true) held t v d ps) :
    ∃ s : Option Addr × Nat × Nat × List α, v = .slice s.1 s.2.1 s.2.2.1 ∧ SlOk k f p W s := by
  obtain ⟨A0, n0, c0, rfl⟩ := okWide_slice ht hv
  obtain ⟨fuel, hf⟩ := hd
  obtain ⟨s, q, hs⟩ := row1_slice hi ht hc hk h0 _ _ _ _ _ _ hf
  refine ⟨s, ?_, hs⟩
  simpa [Value.cells, slCells] using q
end
end Go.Proofs.YtinhenmafjoaoaaGreatDoor
