/- Words for all layers, in one text. -/
import Derived.Test.YtpindjknngcccaaBase
import Derived.Maps.OwnSet
import Derived.Test.YtpindjknngcccaaGA
import Derived.Test.YtpindjknngcccaaGC
import Derived.Test.YtpindjknngcccaaGB
import Derived.Laws.MakeOwn
import Derived.Laws.OwnMore

/- A map in memory as a function of its keys, whatever its keys and elements. -/
namespace Go.Proofs.Ytpindjknngcccaa
open Go.RowKit Go.Maps
set_option linter.unusedSimpArgs false
set_option linter.unusedVariables false
set_option linter.unusedSectionVars false

/-- An element reads as itself. -/
def RVv (v : Value) : Option (DataW Value × List MemPlace) := some (.held v, [])
/-- A kind of keys. -/
structure KeyK (P : Program) (K : TypeId) (κ : Type) where
  enc : κ → Value
  kl : κ → Lit
  wf : κ → Prop
  keyed : Keyed P K
  key : ∀ x, wf x → keyOf P K (enc x) = some (kl x)
  inj : ∀ x y, wf x → wf y → kl x = kl y → x = y
  lit : ∀ x, wf x → WideAt.IsKeyLit (kl x)
section
variable {P : Program} {t K e : TypeId} {κ : Type} [DecidableEq κ] {k : KeyK P K κ} {b n : Nat} {f : κ → Option Value} {w w' : World} {x : κ}
/-- Block b is a map of at most n entries that answers as f. -/
def MapF (w : World) (k : KeyK P K κ) (b n : Nat) (f : κ → Option Value) : Prop :=
  ∃ D : DataW Value, w.ownsMap P K RVv b n D ∧ ∀ x, k.wf x → has D (k.kl x) = (f x).isSome ∧ ∀ z, D.atKey (k.kl x) (.held z) = .held ((f x).getD z)
theorem MapF.lt (h : MapF w k b n f) : b < w.heap.size := let ⟨_, h1, _⟩ := h; World.ownsMap.lt h1
theorem MapF.mono {n' : Nat} (h : MapF w k b n f) (hn : n ≤ n') : MapF w k b n' f := let ⟨D, h1, h2⟩ := h; ⟨D, World.ownsMap.mono h1 hn, h2⟩
theorem MapF.kept {S : Nat → Prop} (h : MapF w k b n f) (hk : Kept S w w') (hb : ¬ S b) : MapF w' k b n f := by
  obtain ⟨D, h0, h2⟩ := h
  have hlt := World.ownsMap.lt h0
  obtain ⟨es, clock, h1, F, hs, hD⟩ := h0
  exact ⟨D, ⟨es, clock, (hk.block b hlt hb).trans h1, F, hs, hD⟩, h2⟩
theorem MapF.bl (h : MapF w k b n f) (hb : Below w.heap.size w w') : MapF w' k b n f := h.kept (Kept.of_below (S := fun _ => False) hb) (fun e => e)
theorem MapF.al (h : MapF w k b n f) (o : Obj) : MapF (w.alloc o) k b n f := h.bl ((Below.refl _ w).alloc (Nat.le_refl _) o)
theorem MapF.dr (h : MapF w k b n f) : MapF w.drew k b n f := h.bl ((Below.refl _ _).drew)
theorem MapF.grown {r : Option Nat} (h : MapF w k b n f) (hg : w.grownBy w' r) (hr : some b ≠ r) : MapF w' k b n f :=
  h.kept (S := fun i => some i = r) ⟨hg.os, hg.tape, hg.output, hg.size, fun i hi hn => hg.block i hi hn⟩ hr
theorem MapF.made : MapF (w.alloc (.map #[] 0)) k w.heap.size 0 (fun _ => none) :=
  ⟨.map [], World.ownsMap_made _ _ _ _, fun x hx => ⟨by simp [has], fun z => WideAt.atKey_none (.held z) (fun p hp => by cases hp)⟩⟩
theorem MapF.look (h : MapF w k b n f) (ht : P.underlying t = some (.map K e)) {z : Value} (hz : (zeroValue e).run P w = .ok z w) (hx : k.wf x) :
    (Instr.lookup t (.map (some b)) (k.enc x) true).run P w = .ok (.tuple #[(f x).getD z, .bool (f x).isSome]) w := by
  obtain ⟨D, h1, h2⟩ := h
  obtain ⟨v, ps, hrun, hv⟩ := World.ownsMap.look_ok h1 k.keyed ht hz (zd := .held z) (zp := []) rfl (k.key x hx)
  obtain ⟨h3, h4⟩ := h2 x hx
  have h5 := (Prod.mk.inj (Option.some.inj hv)).1
  rw [h4 z] at h5
  injection h5 with h5
  rw [hrun, h3, ← h5]
theorem MapF.put (h : MapF w k b n f) (ht : P.underlying t = some (.map K e)) (hn : n < maxLen) (hx : k.wf x) (v : Value) :
    ∃ w', (Instr.mapUpdate t (.map (some b)) (k.enc x) v).run P w = .ok () w' ∧ MapF w' k b (n + 1) (fun y => if y = x then some v else f y) ∧ w.grownBy w' (some b) := by
  obtain ⟨D, h1, h2⟩ := h
  obtain ⟨w', h3, h4, h5⟩ := World.ownsMap.store h1 k.keyed ht hn (k.key x hx) (d := .held v) (ps := []) rfl
  refine ⟨w', h3, ⟨_, h4, fun y hy => ?_⟩, h5.grown⟩
  by_cases e : y = x
  · subst e
    simp only [if_pos, Option.isSome_some, Option.getD_some]
    exact ⟨has_put_same (World.ownsMap.isMap h1) (k.lit y hx) _, fun z => atKey_put_same (World.ownsMap.isMap h1) (k.lit y hx) _ _⟩
  · simp only [if_neg e]
    rw [has_put_other (fun q => e (k.inj _ _ hy hx q))]
    exact ⟨(h2 y hy).1, fun z => by rw [atKey_put_other (fun q => e (k.inj _ _ hy hx q))]; exact (h2 y hy).2 z⟩
end
theorem exec_mapPut {P : Program} {ev : Operand → Value} {o : Oper} {w w' : World} {t : TypeId} {m x v : Operand} {key val : Value} {b : Option Nat} (ho : o.op = .mapUpdate t m x v) (hm : ev m = .map b) (hx : ev x = key) (hv : ev v = val)
    (hrun : (Instr.mapUpdate t (.map b) key val).run P w = .ok () w') : (execOp ev o).run P w = .ok .skip w' := by
  simp [execOp, ho, hm, hx, hv, hrun, Result.andThen]
theorem exec_mapLook {P : Program} {ev : Operand → Value} {o : Oper} {w w' : World} {t : TypeId} {m x : Operand} {key v : Value} {b : Option Nat} (ho : o.op = .lookup t m x true) (hm : ev m = .map b) (hx : ev x = key)
    (hrun : (Instr.lookup t (.map b) key true).run P w = .ok v w') : (execOp ev o).run P w = .ok (.value v) w' := by
  simp [execOp, ho, hm, hx, hrun, Result.andThen]
section
variable {P : Program} {t K e : TypeId} {κ : Type} [DecidableEq κ] {k : KeyK P K κ} {b n : Nat} {f : κ → Option Value} {w : World} {x : κ} {ops : Array Oper} {rest : List Oper} {o : Oper} {a : Act} {Q : Exit → Act → World → Prop}
theorem wl_mapLook (hg : o.guard = none) (m y : Operand) (ho : o.op = .lookup t m y true) (hm : a.eval m = .map (some b)) (h : MapF w k b n f) (ht : P.underlying t = some (.map K e)) {z : Value} (hz : (zeroValue e).run P w = .ok z w) (hx : k.wf x)
    (hy : a.eval y = k.enc x) (hK : wpList P ops Q rest (a.put o.dst (.tuple #[(f x).getD z, .bool (f x).isSome])) w) : wpList P ops Q (o :: rest) a w := by
  refine wpList_plain hg fun K' hK' => ?_
  unfold Oper.wp
  rw [exec_mapLook ho hm hy (h.look ht hz hx)]
  exact hK' _ _ hK
theorem wl_mapPut (hg : o.guard = none) (m y v : Operand) (ho : o.op = .mapUpdate t m y v) (hm : a.eval m = .map (some b)) (h : MapF w k b n f) (ht : P.underlying t = some (.map K e)) (hn : n < maxLen) (hx : k.wf x)
    (hy : a.eval y = k.enc x) {u : Value} (hv : a.eval v = u) (hK : ∀ w', MapF w' k b (n + 1) (fun y => if y = x then some u else f y) → w.grownBy w' (some b) → wpList P ops Q rest (a.put o.dst undef) w') : wpList P ops Q (o :: rest) a w := by
  refine wpList_plain hg fun K' hK' => ?_
  obtain ⟨w', h1, h2, h3⟩ := h.put ht hn hx u
  unfold Oper.wp
  rw [exec_mapPut ho hm hy hv h1]
  exact hK' _ _ (hK w' h2 h3)
end
end Go.Proofs.Ytpindjknngcccaa

/- A lookup that asks for the element alone. -/
namespace Go.Proofs.Ytpindjknngcccaa
open Go.RowKit Go.Maps
set_option linter.unusedSimpArgs false
set_option linter.unusedVariables false
set_option linter.unusedSectionVars false

section
variable {P : Program} {t K e : TypeId} {κ : Type} [DecidableEq κ] {k : KeyK P K κ} {b n : Nat} {f : κ → Option Value} {w : World} {x : κ} {ops : Array Oper} {rest : List Oper} {o : Oper} {a : Act} {Q : Exit → Act → World → Prop}
theorem MapF.get (h : MapF w k b n f) (ht : P.underlying t = some (.map K e)) {z : Value} (hz : (zeroValue e).run P w = .ok z w) (hx : k.wf x) :
    (Instr.lookup t (.map (some b)) (k.enc x) false).run P w = .ok ((f x).getD z) w := by
  obtain ⟨D, h1, h2⟩ := h
  obtain ⟨v, ps, hrun, hv⟩ := World.ownsMap.lookup h1 k.keyed ht hz (zd := .held z) (zp := []) rfl (k.key x hx)
  obtain ⟨h3, h4⟩ := h2 x hx
  have h5 := (Prod.mk.inj (Option.some.inj hv)).1
  rw [h4 z] at h5
  injection h5 with h5
  rw [hrun, ← h5]
theorem exec_mapGet {P : Program} {ev : Operand → Value} {o : Oper} {w w' : World} {t : TypeId} {m x : Operand} {key v : Value} {b : Option Nat} (ho : o.op = .lookup t m x false) (hm : ev m = .map b) (hx : ev x = key)
    (hrun : (Instr.lookup t (.map b) key false).run P w = .ok v w') : (execOp ev o).run P w = .ok (.value v) w' := by
  simp [execOp, ho, hm, hx, hrun, Result.andThen]
theorem wl_mapGet (hg : o.guard = none) (m y : Operand) (ho : o.op = .lookup t m y false) (hm : a.eval m = .map (some b)) (h : MapF w k b n f) (ht : P.underlying t = some (.map K e)) {z : Value} (hz : (zeroValue e).run P w = .ok z w) (hx : k.wf x)
    (hy : a.eval y = k.enc x) (hK : wpList P ops Q rest (a.put o.dst ((f x).getD z)) w) : wpList P ops Q (o :: rest) a w := by
  refine wpList_plain hg fun K' hK' => ?_
  unfold Oper.wp
  rw [exec_mapGet ho hm hy (h.get ht hz hx)]
  exact hK' _ _ hK
end
end Go.Proofs.Ytpindjknngcccaa

/- Names and darts as keys of maps. -/
namespace Go.Proofs.Ytpindjknngcccaa
open Go.RowKit Go.Maps
set_option linter.unusedSimpArgs false
set_option linter.unusedVariables false

def keyDart : KeyK Try.prog 39 D where
  enc d := .agg #[.int .i64 d.1, .int .i64 d.2.1, .int .i64 d.2.2]
  kl := kD
  wf := wfD
  keyed := keyed_dart
  key := key_dart
  inj _ _ := kD_inj
  lit _ := kD_key
abbrev I2 := Int × Int
def wfI (d : I2) : Prop := (Lit.int .i64 d.1).wf = true ∧ (Lit.int .i64 d.2).wf = true
def kI (d : I2) : Lit := .string (keyBytes [.int .i64 d.1, .int .i64 d.2])
theorem wide_id : (match Try.prog.underlying 35 with | some (.array _ _) | some (.struct _) => true | _ => false) = true := by rw [Try.underlying35]
set_option maxRecDepth 100000 in
theorem law_id : WideMaps.KeyLaw Try.prog 35 := deep_law_laid laid_prog (m := 2) (by omega) (by show 35 < Try.prog.types.size; decide) (by kernel_rfl) wide_id
theorem keyed_id : Keyed Try.prog 35 := Keyed.of_law law_id
theorem lits_id (m : Nat) (d : I2) (h : wfI d) : Try.prog.keyLits (m + 2) 35 [.int .i64 d.1, .int .i64 d.2] = some [.int .i64 d.1, .int .i64 d.2] := by
  obtain ⟨h1, h2⟩ := h
  have c2 : Try.prog.cellsOf 35 = 2 := by kernel_rfl
  have c3 : Try.prog.cellsOf 3 = 1 := by kernel_rfl
  have i1 : ∀ (n : Nat) (x : Int), (Lit.int .i64 x).wf = true → Try.prog.keyLits (n + 1) 3 [.int .i64 x] = some [.int .i64 x] := fun n x hx => by simp [Program.keyLits, Try.underlying3, hx]
  unfold Program.keyLits
  simp only [Try.underlying35, c2]
  rw [if_pos ⟨rfl, by kernel_rfl⟩]
  simp [c3, i1, h1, h2]
theorem key_id (d : I2) (h : wfI d) : keyOf Try.prog 35 (.agg #[.int .i64 d.1, .int .i64 d.2]) = some (kI d) := by
  have hk : Try.prog.keyType 35 = true := by kernel_rfl
  have c1 : Try.prog.cellsOf 35 = 2 := by kernel_rfl
  have hf : (Value.agg #[.int .i64 d.1, .int .i64 d.2]).formed Try.prog 35 = true := by simp [Value.formed, Try.underlying35, c1]
  obtain ⟨m, hm⟩ : ∃ m, Try.prog.types.size + 1 = m + 2 := ⟨Try.prog.types.size - 1, by kernel_rfl⟩
  have hl := lits_id m d h
  rw [← hm] at hl
  unfold keyOf
  simp only [Try.underlying35, hk, hf, Value.cells, Bool.and_self, if_true]
  rw [hl]
  rfl
theorem kI_inj {a b : I2} (ha : wfI a) (hb : wfI b) (h : kI a = kI b) : a = b := by
  have := keyed_id.inj (key_id a ha) (by rw [h]; exact key_id b hb)
  simp at this
  exact Prod.ext this.1 this.2
def keyID : KeyK Try.prog 35 I2 where
  enc d := .agg #[.int .i64 d.1, .int .i64 d.2]
  kl := kI
  wf := wfI
  keyed := keyed_id
  key := key_id
  inj _ _ := kI_inj
  lit _ h := keyed_id.key (key_id _ h)
theorem zero_intK (w : World) : (zeroValue 3).run Try.prog w = .ok (.int .i64 0) w := by
  obtain ⟨i, hi, hz⟩ : ∃ i, Try.prog.info? 3 = some i ∧ i.zero = some (.int .i64 0) := by
    have h : (Try.prog.info? 3).map (·.zero) = some (some (.int .i64 0)) := by kernel_rfl
    cases h2 : Try.prog.info? 3 with
    | none => rw [h2] at h; cases h
    | some i => rw [h2] at h; exact ⟨i, rfl, by simpa using h⟩
  simp [zeroValue, typeInfo, hi, hz]
end Go.Proofs.Ytpindjknngcccaa

/- As In2, where those behind wait for all of the first n by way of others. -/
namespace Go.Proofs.Ytpindjknngcccaa
open Go.RowKit

section
variable {P : Program} {ops : Array Oper} {Q : Exit → Act → World → Prop} {md : Region.Mode}
def depsAt (md : Region.Mode) (ops : Array Oper) (i : Nat) : List Nat := match ops[i]? with | some o => depsOf md o | none => []
def closeN (md : Region.Mode) (ops : Array Oper) : Nat → List Nat → List Nat
  | 0, l => l
  | m + 1, l => closeN md ops m (l ++ l.flatMap (depsAt md ops))
def tailC (md : Region.Mode) (ops : Array Oper) (n m : Nat) : Bool := (List.range ops.size).all fun k => decide (k < n) || (List.range n).all fun j => (closeN md ops m (depsAt md ops k)).contains j
theorem close_all {listed : Array Bool} (hcl : ∀ i, listed.getD i false = true → ∀ j ∈ depsAt md ops i, listed.getD j false = true) : ∀ (m : Nat) (l : List Nat), (∀ j ∈ l, listed.getD j false = true) → ∀ j ∈ closeN md ops m l, listed.getD j false = true
  | 0, _, h => h
  | m + 1, l, h => close_all hcl m _ (fun j hj => by
    rcases List.mem_append.1 hj with hj | hj
    · exact h j hj
    · obtain ⟨i, hi, hij⟩ := List.mem_flatMap.1 hj
      exact hcl i (h i hi) j hij)
theorem tailC_spec {n m k : Nat} (h : tailC md ops n m = true) (hk : n ≤ k) (hks : k < ops.size) : ∀ j, j < n → j ∈ closeN md ops m (depsAt md ops k) := by
  intro j hj
  have h1 := List.all_eq_true.1 h k (by simp [hks])
  have h2 : decide (k < n) = false := decide_eq_false (by omega)
  rw [h2, Bool.false_or] at h1
  have h3 := List.all_eq_true.1 h1 j (by simp [hj])
  simpa using h3
theorem wpAny_in4 (n m : Nat) (Γ : Nat → Value → World → Prop) (G : World → Prop) (a0 : Act) (hΓ : ∀ i v w w', Γ i v w → Ext w w' → Γ i v w') (hG : ∀ w w', G w → Ext w w' → G w')
    (hd : distinctB ops = true) (hr : risingB md ops = true) (hn : n ≤ ops.size) (ht : tailC md ops n m = true) (hstep : ∀ i, i < n → StepOk P md ops Γ G a0 i)
    (hend : ∀ x w, G w → (∀ i, i < n → Γ i (x i) w) → wpAny P md ops Q (ops.size - n) (upTo n ops.size) (putAll x (dsts ops) 0 a0) w) :
    ∀ (fuel : Nat) (listed : Array Bool) (x : Nat → Value) (w : World), listed.size = ops.size → (∀ i, listed.getD i false = true → ∀ j ∈ depsAt md ops i, listed.getD j false = true) → (∀ k, n ≤ k → k < ops.size → listed.getD k false = false) → (List.range ops.size).countP (fun j => listed.getD j false) + fuel = ops.size →
      G w → (∀ i, i < n → listed.getD i false = true → Γ i (x i) w) → wpAny P md ops Q fuel listed (putAll x (dsts ops) 0 a0) w := by
  have hfree : ∀ (listed : Array Bool), listed.size = ops.size → (¬ ∀ i, i < n → listed.getD i false = true) → ∃ i, i < n ∧ i ∈ Region.ready md ops listed := by
    intro listed hs hno
    by_cases hex : ∃ i, i < n ∧ i ∈ Region.ready md ops listed
    · exact hex
    · exfalso
      refine hno fun i => ?_
      induction i using Nat.strongRecOn with
      | _ i ih =>
        intro hi
        by_cases hl : listed.getD i false = true
        · exact hl
        · exfalso
          refine hex ⟨i, hi, ?_⟩
          rw [mem_ready]
          have his : i < ops.size := by omega
          have hil : i < listed.size := by omega
          have h1 : listed.getD i true = false := by
            simp [Array.getD, hil] at hl ⊢
            exact hl
          refine ⟨h1, ops[i], by simp [his], fun e he hb => ?_⟩
          have h2 := List.all_eq_true.1 (show (List.range ops.size).all _ = true from hr) i (by simp [his])
          simp [his] at h2
          have h3 := h2 e.on (by
            unfold depsOf
            exact List.mem_map.2 ⟨e, List.mem_filter.2 ⟨by simpa using he, hb⟩, rfl⟩)
          exact ih e.on h3 (by omega)
  intro fuel
  induction fuel with
  | zero =>
    intro listed x w hs hcl hk hc hg hx
    have hl : ∀ i, i < ops.size → listed.getD i false = true := fun i hi => by
      have h1 : (List.range ops.size).countP (fun j => listed.getD j false) = (List.range ops.size).length := by simpa using hc
      exact List.countP_eq_length.1 h1 i (by simp [hi])
    have hno : n = ops.size := by
      rcases Nat.lt_or_ge n ops.size with h | h
      · have h1 := hl n h
        rw [hk n (Nat.le_refl _) h] at h1
        cases h1
      · omega
    have he := hend x w hg fun i hi => hx i hi (hl i (by omega))
    rw [show ops.size - n = 0 by omega] at he
    have e1 : listed = upTo n ops.size := by
      apply Array.ext
      · rw [upTo_size, hs]
      · intro j h1 h2
        have h3 := hl j (by omega)
        have h4 := upTo_get n ops.size j (by omega)
        rw [decide_eq_true (by omega)] at h4
        simp [Array.getD, h1] at h3
        simp [Array.getD, h2] at h4
        rw [h3, h4]
    rw [e1]
    exact he
  | succ fuel ih =>
    intro listed x w hs hcl hk hc hg hx
    by_cases hall : ∀ i, i < n → listed.getD i false = true
    · have he := hend x w hg fun i hi => hx i hi (hall i hi)
      have e1 : listed = upTo n ops.size := by
        apply Array.ext
        · rw [upTo_size, hs]
        · intro j h1 h2
          have h4 := upTo_get n ops.size j (by omega)
          simp [Array.getD, h2] at h4
          by_cases hj : j < n
          · have h3 := hall j hj
            simp [Array.getD, h1] at h3
            rw [h3, h4, decide_eq_true hj]
          · have h3 := hk j (by omega) (by omega)
            simp [Array.getD, h1] at h3
            rw [h3, h4, decide_eq_false hj]
      have e2 : (List.range ops.size).countP (fun j => listed.getD j false) = n := by
        rw [e1]
        have : (List.range ops.size).countP (fun j => (upTo n ops.size).getD j false) = (List.range ops.size).countP (fun j => decide (j < n)) := by
          apply List.countP_congr
          intro j hj
          rw [upTo_get n ops.size j (by simpa using hj)]
        rw [this, countP_lt]
        omega
      rw [show ops.size - n = fuel + 1 by omega] at he
      rw [e1]
      exact he
    · obtain ⟨i0, hi0, hi0r⟩ := hfree listed hs hall
      refine ⟨fun h0 => (by rw [h0] at hi0r; cases hi0r), fun i hi => ?_⟩
      obtain ⟨h1, o, ho, hdep⟩ := mem_ready.1 hi
      have his : i < ops.size := (Array.getElem?_eq_some_iff.1 ho).1
      have hil : i < listed.size := by omega
      have hin : i < n := by
        rcases Nat.lt_or_ge i n with h | h
        · exact h
        · exfalso
          have hdl : ∀ j ∈ depsAt md ops i, listed.getD j false = true := fun j hj => by
            unfold depsAt at hj
            rw [ho] at hj
            unfold depsOf at hj
            obtain ⟨e, he, rfl⟩ := List.mem_map.1 hj
            obtain ⟨he1, he2⟩ := List.mem_filter.1 he
            exact hdep e (by simpa using he1) he2
          exact hall fun j hj => close_all hcl m _ hdl j (tailC_spec ht h his j hj)
      have hds : (dsts ops)[i]? = some o.dst := by
        unfold dsts
        rw [List.getElem?_map, Array.getElem?_toList, ho]
        rfl
      have hput : ∀ v, (putAll x (dsts ops) 0 a0).put o.dst v = putAll (upd x i v) (dsts ops) 0 a0 := fun v =>
        putAll_set x i v (dsts ops) 0 a0 o.dst (Nat.zero_le _) (by simpa using hds) (fun j e hj hne t ht he => by
          rw [Nat.sub_zero] at hne
          rw [ht] at hds
          rw [he] at hj
          exact hne (distinct_spec hd hj hds))
      have hnext : ∀ v w', Ext w w' → Γ i v w' → wpAny P md ops Q fuel (listed.setIfInBounds i true) (putAll (upd x i v) (dsts ops) 0 a0) w' := fun v w' hw hv => by
        refine ih _ _ _ (by simpa using hs) (fun i' hi' j hj => ?_) (fun k h1 h2 => ?_) ?_ (hG _ _ hg hw) fun j hj1 hj => ?_
        · have hj0 : listed.getD j false = true := by
            by_cases e : i' = i
            · subst e
              unfold depsAt at hj
              rw [ho] at hj
              unfold depsOf at hj
              obtain ⟨e, he, rfl⟩ := List.mem_map.1 hj
              obtain ⟨he1, he2⟩ := List.mem_filter.1 he
              exact hdep e (by simpa using he1) he2
            · rw [getD_set_ne false (Ne.symm e)] at hi'
              exact hcl i' hi' j hj
          by_cases e : j = i
          · subst e
            simp [Array.getD, hil]
          · rw [getD_set_ne false (Ne.symm e)]
            exact hj0
        · rw [getD_set_ne false (by omega)]
          exact hk k h1 h2
        · have hone := countP_one (fun j => listed.getD j false) (fun j => (listed.setIfInBounds i true).getD j false) i (by simp [Array.getD, hil] at h1 ⊢; exact h1) (by simp [Array.getD, hil]) (fun j hj => getD_set_ne false (Ne.symm hj)) ops.size
          rw [hone, if_pos his]
          omega
        · by_cases e : j = i
          · subst e
            simpa [upd] using hv
          · rw [getD_set_ne false (Ne.symm e)] at hj
            rw [show upd x i v j = x j from if_neg e]
            exact hΓ _ _ _ _ (hx j hj1 hj) hw
      have hok := hstep i hin o ho x w hg (fun j hj => by
        have hji : j < i := by
          have h2 := List.all_eq_true.1 (show (List.range ops.size).all _ = true from hr) i (by simp [his])
          rw [ho] at h2
          simpa using List.all_eq_true.1 h2 j hj
        unfold depsOf at hj
        obtain ⟨e, he, rfl⟩ := List.mem_map.1 hj
        obtain ⟨he1, he2⟩ := List.mem_filter.1 he
        exact hx _ (by omega) (hdep e (by simpa using he1) he2))
      unfold wpOp
      simp only [ho]
      rcases hok with ⟨hw, hout⟩ | ⟨hw, hu⟩
      · simp only [hw, if_true]
        exact .inl (hout.wp fun v w' hx1 hv => by rw [hput]; exact hnext v w' hx1 hv)
      · simp only [hw, Bool.false_eq_true, if_false]
        rw [hput]
        exact hnext undef w (Ext.refl w) hu

/-- The region: the first n by an invariant, the others walked. -/
theorem wp_region_in4 (n m : Nat) (S : Nat → Prop) {id : Nat} {a0 : Act} {w : World} (Γ : Nat → Value → World → Prop) (G : World → Prop) (hm : P.follows .mixedOrders = true)
    (hd : distinctB ops = true) (hr : risingB .any ops = true) (hn : decide (n ≤ ops.size) = true) (ht : tailC .any ops n m = true) (hΓ : ∀ i v w w', Γ i v w → Ext w w' → Γ i v w') (hG : ∀ w w', G w → Ext w w' → G w') (hg : G w.drew)
    (hstep : ∀ i, i < n → StepOk P .any ops Γ G a0 i)
    (hend : ∀ x w, G w → (∀ i, i < n → Γ i (x i) w) → wpR P .any ops S Q (ops.size - n) (upTo n ops.size) (putAll x (dsts ops) 0 a0) w) : (Code.region id ops true).wp P Q a0 w := by
  obtain ⟨x, hx⟩ := putAll_self (dsts ops) 0 a0
  have hz : ∀ k, (Array.replicate ops.size false).getD k false = false := fun k => by
    by_cases h : k < ops.size <;> simp [Array.getD, h]
  have h := wpAny_in4 (P := P) (Q := Q) (md := .any) n m Γ G a0 hΓ hG hd hr (of_decide_eq_true hn) ht hstep (fun x w h1 h2 => wpAny_of_R _ _ _ _ (hend x w h1 h2)) ops.size (Array.replicate ops.size false) x w.drew (by simp) (fun i hi => by rw [hz i] at hi; cases hi) (fun k _ _ => hz k) (by
    have : (List.range ops.size).countP (fun j => (Array.replicate ops.size false).getD j false) = 0 := by
      rw [List.countP_eq_zero]
      intro j hj
      rw [hz j]
      simp
    omega) hg (fun i _ hi => by rw [hz i] at hi; cases hi)
  rw [hx] at h
  exact wp_region_any hm h
end
end Go.Proofs.Ytpindjknngcccaa

/- comp.join, comp.place. -/
namespace Go.Proofs.Ytpindjknngcccaa
open Go.RowKit
set_option linter.unusedSimpArgs false
set_option linter.unusedVariables false


def n1 (x : Int) : List Value := [.int .i64 x]
theorem n1_len (x : Int) : (n1 x).length = 1 := rfl
/-- One part of the parts a and b. -/
def joinF (L : List Int) (a b : Int) : List Int := L.map fun x => if x = a ∨ x = b then min a b else x
theorem join_next {L : List Int} {a b x : Int} {j : Nat} (h : L[j]? = some x) : (joinF (L.take j) a b ++ L.drop j).set j (if x = a ∨ x = b then min a b else x) = joinF (L.take (j + 1)) a b ++ L.drop (j + 1) := by
  obtain ⟨hj, e⟩ := List.getElem?_eq_some_iff.1 h
  have hl : (joinF (L.take j) a b).length = j := by simp [joinF]; omega
  rw [List.set_append_right _ _ (by omega), hl, Nat.sub_self, List.drop_eq_getElem_cons hj, e, List.set_cons_zero, List.take_succ_eq_append_getElem hj, e]
  simp [joinF]
theorem join_skip {L : List Int} {a b x : Int} {j : Nat} (h : L[j]? = some x) (hx : ¬ (x = a ∨ x = b)) : joinF (L.take j) a b ++ L.drop j = joinF (L.take (j + 1)) a b ++ L.drop (j + 1) := by
  obtain ⟨hj, e⟩ := List.getElem?_eq_some_iff.1 h
  rw [List.drop_eq_getElem_cons hj, e, List.take_succ_eq_append_getElem hj, e]
  simp [joinF, hx]
theorem join_at {L : List Int} {a b x : Int} {j : Nat} (h : L[j]? = some x) : (joinF (L.take j) a b ++ L.drop j)[j]? = some x := by
  obtain ⟨hj, e⟩ := List.getElem?_eq_some_iff.1 h
  have hl : (joinF (L.take j) a b).length = j := by simp [joinF]; omega
  rw [List.getElem?_append_right (by omega), hl, Nat.sub_self, List.getElem?_drop, Nat.add_zero]
  exact h
set_option maxRecDepth 100000 in
set_option maxHeartbeats 4000000 in
theorem join_any (g n c : Nat) (L : List Int) (a b : Int) (lo : Nat) (w : World) (h : w.ownsRow lo 3 1 (.slice (some ⟨g, 0, none⟩) n c) n (rowsV n1 L)) (hn : n ≤ 1000000) (hl : L.length = n) :
    Calls Try.prog 95 #[.slice (some ⟨g, 0, none⟩) n c, .int .i64 a, .int .i64 b] w fun e w' => e = .returned (.tuple #[]) ∧ w'.ownsRow lo 3 1 (.slice (some ⟨g, 0, none⟩) n c) n (rowsV n1 (joinF L a b)) ∧ Kept (fun i => i = g) w w' := by
  have H := Lib.hid h
  have Hl := Lib.hid hl
  obtain ⟨mn, gmn⟩ : ∃ z, min a b = z := ⟨_, rfl⟩
  have HM := Lib.hid gmn
  clear h hl
  go_enter Try.func95, Try.ntmps95
  go_wp2
  go_loopw [10] (fun si wr => ∃ j : Nat, j ≤ n ∧ si = .int .i64 j ∧ RowKit.Hid (wr.ownsRow lo 3 1 (.slice (some ⟨g, 0, none⟩) n c) n (rowsV n1 (joinF (L.take j) a b ++ L.drop j))) ∧ RowKit.Hid (Kept (fun i => i = g) w wr)) (fun si _ => n - (intOf si).toNat)
  case atStart => exact ⟨0, by omega, rfl, Lib.hid (by simpa [joinF] using H.out), Lib.hid (Kept.refl _ _)⟩
  case round =>
    clear H
    obtain ⟨j, hj, rfl, HO, HK⟩ := hrel
    obtain ⟨wo, gwo⟩ : ∃ z, wr = z := ⟨_, rfl⟩
    rw [gwo] at HO HK ⊢
    clear gwo
    by_cases hjn : j < n
    · obtain ⟨x, hx⟩ : ∃ x, L[j]? = some x := ⟨_, List.getElem?_eq_getElem (by have := Hl.out; omega)⟩
      obtain ⟨g2, junk, e, hlo, hw, hc, hf, ho⟩ := own_poke (i := 0) (y := mn) (u := .int .i64 mn) n1_len HO.out (join_at (a := a) (b := b) hx) hjn (by omega) rfl
      obtain rfl : g = g2 := by
        injection e with e
        injection e
      have hc0 : wo.cell? ⟨g, j, none⟩ = some (.int .i64 x) := by have := hc.trans (show (n1 x)[0]? = some (.int .i64 x) from rfl); simpa using this
      have hf0 : wo.frozen? ⟨g, j, none⟩ = false := by simpa using hf
      have HN : RowKit.Hid ((x = a ∨ x = b) → (wo.setCell ⟨g, j, none⟩ (.int .i64 mn)).ownsRow lo 3 1 (.slice (some ⟨g, 0, none⟩) n c) n (rowsV n1 (joinF (L.take (j + 1)) a b ++ L.drop (j + 1)))) := Lib.hid (fun hor => by
        have h1 := ho
        rw [show (j * 1 + 0 : Nat) = j by omega] at h1
        have h2 := join_next (a := a) (b := b) hx
        rw [if_pos hor, HM.out] at h2
        rw [h2] at h1
        exact h1)
      have HS : RowKit.Hid (¬ (x = a ∨ x = b) → joinF (L.take j) a b ++ L.drop j = joinF (L.take (j + 1)) a b ++ L.drop (j + 1)) := Lib.hid (fun h => join_skip hx h)
      have HK2 : RowKit.Hid (Kept (fun i => i = g) w (wo.setCell ⟨g, j, none⟩ (.int .i64 mn))) := Lib.hid (HK.out.trans (kept_setCells (S := fun i => i = g) rfl j [.int .i64 mn]))
      clear hx e hlo hw hc hf ho
      by_cases ha : x = a
      · subst ha
        have HN1 := Lib.hid (HN.out (.inl rfl))
        have ha1 : ((x : Int) == x) = true := by simp
        clear HN HS HK HO
        go_wp2
        go_roundw
        case rel => exact ⟨j + 1, by omega, by go_num, HN1, HK2⟩
        case measure => simp [intOf]; omega
      · have ha1 : (x == a) = false := beq_eq_false_iff_ne.2 ha
        by_cases hb : x = b
        · subst hb
          have HN1 := Lib.hid (HN.out (.inr rfl))
          have hb1 : ((x : Int) == x) = true := by simp
          clear HN HS HK HO
          go_wp2
          go_roundw
          case rel => exact ⟨j + 1, by omega, by go_num, HN1, HK2⟩
          case measure => simp [intOf]; omega
        · have hb1 : (x == b) = false := beq_eq_false_iff_ne.2 hb
          have HO1 : RowKit.Hid (wo.ownsRow lo 3 1 (.slice (some ⟨g, 0, none⟩) n c) n (rowsV n1 (joinF (L.take (j + 1)) a b ++ L.drop (j + 1)))) := Lib.hid (by rw [← HS.out (by omega)]; exact HO.out)
          clear HN HS HO HK2
          go_wp2
          go_roundw
          case rel => exact ⟨j + 1, by omega, by go_num, HO1, HK⟩
          case measure => simp [intOf]; omega
    · obtain rfl : n = j := by omega
      go_wp2
      go_end0
      refine ⟨rfl, ?_, HK.out⟩
      have h1 := HO.out
      rw [List.take_of_length_le (by have := Hl.out; omega), List.drop_eq_nil_of_le (by have := Hl.out; omega), List.append_nil] at h1
      exact h1
end Go.Proofs.Ytpindjknngcccaa

/- comp.Labels. -/
namespace Go.Proofs.Ytpindjknngcccaa
open Go.RowKit
set_option linter.unusedSimpArgs false
set_option linter.unusedVariables false


theorem info_intC : (Try.prog.info? 3).map (fun i => (i.zero, i.size, i.bytes)) = some (some (.int .i64 0), 1, 8) := by kernel_rfl
set_option maxRecDepth 100000 in
theorem make_intsC (W : World) (n : Nat) (hn : n ≤ 1000000) : (Instr.makeSlice 70 (.int .i64 (n : Int)) (.int .i64 (n : Int))).run Try.prog W = .ok (.slice (some ⟨W.heap.size, 0, none⟩) n n) (W.alloc (.cells (List.replicate n (.int .i64 0)).toArray 3)) := by
  obtain ⟨i0, hi, hz0, hz1, hz2⟩ := info_parts info_intC
  have := run_make (P := Try.prog) W 70 3 i0 _ Try.underlying70 hi hz0 .i64 .i64 n n (by omega) (by omega) (by rw [hz2]; omega) (by omega)
  rw [hz1, Int.toNat_natCast, Nat.mul_one] at this
  rw [this]
  congr 3
  have e := toList_madeCells_one (.int .i64 0) n
  exact Array.toList_inj.1 (by rw [show (Value.int .i64 0).cells = #[.int .i64 0] from rfl, e])
/-- What is known behind some darts: the labels; of each edge that was met, at which vertex it was first. -/
abbrev St := List Int × (I2 → Option Nat)
def stepD (i : Nat) (s : St) (x : D) : St := match s.2 (x.1, x.2.1) with
  | some j => (joinF s.1 (s.1.getD i 0) (s.1.getD j 0), s.2)
  | none => (s.1, fun y => if y = (x.1, x.2.1) then some i else s.2 y)
def labV : Nat → List VC → St → St
  | _, [], s => s
  | i, v :: r, s => labV (i + 1) r (v.2.1.2.2.2.foldl (stepD i) s)
def upN (n : Nat) : List Int := (List.range n).map fun k : Nat => (k : Int)
def labF (Vs : List VC) : List Int := (labV 0 Vs (upN Vs.length, fun _ => none)).1
theorem joinF_len (L : List Int) (a b : Int) : (joinF L a b).length = L.length := by simp [joinF]
theorem up_set (n j : Nat) (h : j < n) : (upN j ++ List.replicate (n - j) (0 : Int)).set j (j : Int) = upN (j + 1) ++ List.replicate (n - (j + 1)) 0 := by
  have hl : (upN j).length = j := by simp [upN]
  rw [List.set_append_right _ _ (by omega), hl, Nat.sub_self, show n - j = (n - (j + 1)) + 1 by omega, List.replicate_succ, List.set_cons_zero]
  simp [upN, List.range_succ]
theorem up_at (n j : Nat) (h : j < n) : (upN j ++ List.replicate (n - j) (0 : Int))[j]? = some 0 := by
  have hl : (upN j).length = j := by simp [upN]
  rw [List.getElem?_append_right (by omega), hl, Nat.sub_self, show n - j = (n - (j + 1)) + 1 by omega, List.replicate_succ]
  rfl
theorem rows_rep (n : Nat) : rowsV n1 (List.replicate n 0) = List.replicate n (.int .i64 0) := by
  induction n with
  | zero => rfl
  | succ k ih => rw [List.replicate_succ, List.replicate_succ, ← ih]; rfl
/-- The map of ends, as it lies in memory. -/
def EndsM (w : World) (b n : Nat) (e : I2 → Option Nat) : Prop := MapF w keyID b n (fun y => (e y).map fun j : Nat => Value.int .i64 (j : Int))
theorem ends_put {w : World} {b n : Nat} {e : I2 → Option Nat} {x : I2} {i : Nat} (h : MapF w keyID b n (fun y => if y = x then some (.int .i64 (i : Int)) else (e y).map fun j : Nat => Value.int .i64 (j : Int))) : EndsM w b n (fun y => if y = x then some i else e y) := by
  have : (fun y => if y = x then some (Value.int .i64 (i : Int)) else (e y).map fun j : Nat => Value.int .i64 (j : Int)) = (fun y => (if y = x then some i else e y).map fun j : Nat => Value.int .i64 (j : Int)) := by
    funext y
    split <;> rfl
  unfold EndsM
  rw [← this]
  exact h
section
variable {w w' : World} {b n : Nat} {e : I2 → Option Nat}
theorem EndsM.al (h : EndsM w b n e) (o : Obj) : EndsM (w.alloc o) b n e := MapF.al h o
theorem EndsM.bl (h : EndsM w b n e) (hb : Below w.heap.size w w') : EndsM w' b n e := MapF.bl h hb
theorem EndsM.dr (h : EndsM w b n e) : EndsM w.drew b n e := MapF.dr h
theorem EndsM.mono {n' : Nat} (h : EndsM w b n e) (hn : n ≤ n') : EndsM w b n' e := MapF.mono h hn
theorem EndsM.kept {S : Nat → Prop} (h : EndsM w b n e) (hk : Kept S w w') (hb : ¬ S b) : EndsM w' b n e := MapF.kept h hk hb
theorem EndsM.lt (h : EndsM w b n e) : b < w.heap.size := MapF.lt h
end
/-- What the operations of the region that joins come to. -/
def gamJ (g n i j : Nat) (a b : Int) : Nat → Value → World → Prop
  | 0, v, _ => v = .slice (some ⟨g, 0, none⟩) n n
  | 1, v, _ => v = .slice (some ⟨g, 0, none⟩) n n
  | 2, v, _ => v = .int .i64 (i : Int)
  | 3, v, _ => v = .pointer (some ⟨g, i, none⟩)
  | 4, v, _ => v = .int .i64 a
  | 5, v, _ => v = .slice (some ⟨g, 0, none⟩) n n
  | 6, v, _ => v = .int .i64 (j : Int)
  | 7, v, _ => v = .pointer (some ⟨g, j, none⟩)
  | 8, v, _ => v = .int .i64 b
  | _, _, _ => True
theorem gamJ_up {g n i j : Nat} {a b : Int} : ∀ (q : Nat) (v : Value) (W W' : World), gamJ g n i j a b q v W → Ext W W' → gamJ g n i j a b q v W'
  | 0, _, _, _, h, _ => h
  | 1, _, _, _, h, _ => h
  | 2, _, _, _, h, _ => h
  | 3, _, _, _, h, _ => h
  | 4, _, _, _, h, _ => h
  | 5, _, _, _, h, _ => h
  | 6, _, _, _, h, _ => h
  | 7, _, _, _, h, _ => h
  | 8, _, _, _, h, _ => h
  | _ + 9, _, _, _, _, _ => trivial
theorem n1_at {W : World} {lo g n c : Nat} {L : List Int} (h : W.ownsRow lo 3 1 (.slice (some ⟨g, 0, none⟩) n c) n (rowsV n1 L)) (hl : L.length = n) {i : Nat} (hi : i < n) : W.cell? ⟨g, i, none⟩ = some (.int .i64 (L.getD i 0)) := by
  obtain ⟨x, hx⟩ : ∃ x, L[i]? = some x := ⟨_, List.getElem?_eq_getElem (by omega)⟩
  have h1 := (own_rds h).elem n1_len hx 0 _ rfl
  simp only [Addr.add_lit, Nat.add_zero, Nat.zero_add, Nat.mul_one] at h1
  rw [List.getD_eq_getElem?_getD, hx]
  exact h1
/-- Of a map of names. -/
theorem wl_endsNo {ops : Array Oper} {rest : List Oper} {o : Oper} {a : Act} {Q : Exit → Act → World → Prop} {w : World} (hg : o.guard = none) (m y : Operand) (ho : o.op = .lookup 109 m y true) {b n : Nat} {e : I2 → Option Nat} (hm : a.eval m = .map (some b)) (h : EndsM w b n e)
    (x : I2) (hx : wfI x) (hy : a.eval y = .agg #[.int .i64 x.1, .int .i64 x.2]) (he : e x = none) (hK : wpList Try.prog ops Q rest (a.put o.dst (.tuple #[.int .i64 0, .bool false])) w) : wpList Try.prog ops Q (o :: rest) a w := by
  refine wl_mapLook hg m y ho hm h Try.underlying109 (zero_intK w) hx hy ?_
  rw [he]
  exact hK
theorem wl_endsYes {ops : Array Oper} {rest : List Oper} {o : Oper} {a : Act} {Q : Exit → Act → World → Prop} {w : World} (hg : o.guard = none) (m y : Operand) (ho : o.op = .lookup 109 m y true) {b n : Nat} {e : I2 → Option Nat} (hm : a.eval m = .map (some b)) (h : EndsM w b n e)
    (x : I2) (hx : wfI x) (hy : a.eval y = .agg #[.int .i64 x.1, .int .i64 x.2]) {j : Nat} (he : e x = some j) (hK : wpList Try.prog ops Q rest (a.put o.dst (.tuple #[.int .i64 (j : Int), .bool true])) w) : wpList Try.prog ops Q (o :: rest) a w := by
  refine wl_mapLook hg m y ho hm h Try.underlying109 (zero_intK w) hx hy ?_
  rw [he]
  exact hK
theorem wl_endsPut {ops : Array Oper} {rest : List Oper} {o : Oper} {a : Act} {Q : Exit → Act → World → Prop} {w : World} (hg : o.guard = none) (m y v : Operand) (ho : o.op = .mapUpdate 109 m y v) {b n : Nat} {e : I2 → Option Nat} (hm : a.eval m = .map (some b)) (h : EndsM w b n e) (hn : n < maxLen)
    (x : I2) (hx : wfI x) (hy : a.eval y = .agg #[.int .i64 x.1, .int .i64 x.2]) {i : Nat} (hv : a.eval v = .int .i64 (i : Int)) (hK : ∀ w', EndsM w' b (n + 1) (fun y => if y = x then some i else e y) → w.grownBy w' (some b) → wpList Try.prog ops Q rest (a.put o.dst undef) w') : wpList Try.prog ops Q (o :: rest) a w :=
  wl_mapPut hg m y v ho hm h Try.underlying109 hn hx hy hv fun w' h1 h2 => hK w' (ends_put h1) h2
/-- What a round asks of the state. -/
structure StOk (n : Nat) (s : St) : Prop where
  len : s.1.length = n
  lt : ∀ y j, s.2 y = some j → j < n
theorem StOk.step {n i : Nat} {s : St} (h : StOk n s) (hi : i < n) (x : D) : StOk n (stepD i s x) := by
  unfold stepD
  split
  · exact ⟨by rw [joinF_len]; exact h.len, h.lt⟩
  · refine ⟨h.len, fun y j hy => ?_⟩
    simp only at hy
    split at hy
    · obtain rfl := Option.some.inj hy
      exact hi
    · exact h.lt y j hy
set_option maxRecDepth 100000 in
set_option maxHeartbeats 4000000 in
theorem labels_any (A : Option Addr) (n c : Nat) (Vs : List VC) (B : Option Addr) (m k : Nat) (Es : List EC) (w : World) (h : DgIn w A n c Vs B m k Es) (hn : n ≤ 1000000) (hr : ∀ x ∈ Vs, x.2.1.2.1 ≤ 1000000) (hv : ∀ v ∈ Vs, ∀ d ∈ v.2.1.2.2.2, wfD d) :
    Calls Try.prog 85 #[.agg #[.slice A n c, .slice B m k]] w fun e w' => ∃ g, e = .returned (.slice (some ⟨g, 0, none⟩) n n) ∧ w'.ownsRow w.heap.size 3 1 (.slice (some ⟨g, 0, none⟩) n n) n (rowsV n1 (labF Vs)) ∧ Below w.heap.size w w' := by
  have HV := Lib.hid h.v
  have HRg := Lib.hid h.r
  have Hlv := Lib.hid (h.v.rlen vC_len (by decide))
  have Hhv := Lib.hid hv
  have Hhr := Lib.hid hr
  have HJ := Lib.hid (fun g L a b lo W h hl => join_any g n n L a b lo W h hn hl)
  obtain ⟨lab, glab⟩ : ∃ z, labF Vs = z := ⟨_, rfl⟩
  have HL0 := Lib.hid glab
  rw [glab]
  clear h hv hr glab
  have hmk := fun W => make_intsC W n hn
  have hmm := @run_makeMap Try.prog
  go_enter Try.func85, Try.ntmps85
  go_upto_region 1 with fail
  have hx0 : Whole (w.alloc (.cells #[.slice A n c, .slice B m k] 25)) (w.heap.size) 25 [.slice A n c, .slice B m k] := (Whole.new_ w 25 [.slice A n c, .slice B m k])
  have hbl : Below w.heap.size w (w.alloc (.cells #[.slice A n c, .slice B m k] 25)) := (below1 w (.cells #[.slice A n c, .slice B m k] 25))
  have hsz : w.heap.size + 1 ≤ ((w.alloc (.cells #[.slice A n c, .slice B m k] 25))).heap.size := by simp
  obtain ⟨W0, gW0⟩ : ∃ z, (w.alloc (.cells #[.slice A n c, .slice B m k] 25)) = z := ⟨_, rfl⟩
  rw [gW0] at hx0 hbl hsz
  obtain ⟨b0, gb0⟩ : ∃ z, w.heap.size = z := ⟨_, rfl⟩
  rw [gb0] at hx0
  have HX0 := Lib.hid hx0
  have HB0 := Lib.hid hbl
  have HS0 := Lib.hid hsz
  have Gb0 := Lib.hid gb0
  have Lb0 : RowKit.Hid (w.heap.size ≤ b0) := Lib.hid (by omega)
  rw [gW0, gb0]
  clear gW0 hbl hsz hx0 gb0
  have HX := HX0
  have c0 := HX.out.cell (i := 0) rfl
  go_wp2
  clear hmk c0
  have HO0 : RowKit.Hid ((W0.alloc (.cells (Array.replicate n (.int .i64 0)) 3)).ownsRow w.heap.size 3 1 (.slice (some ⟨W0.heap.size, 0, none⟩) n n) n (rowsV n1 (upN 0 ++ List.replicate (n - 0) 0))) := Lib.hid (own_new rfl HB0.out.size (by unfold maxLen; omega) (by simp) (by rw [show upN 0 ++ List.replicate (n - 0) (0 : Int) = List.replicate n 0 from by simp [upN], rows_rep]; simp))
  have HX1 := Lib.hid (HX.out.alloc (.cells (Array.replicate n (.int .i64 0)) 3))
  have HB1 := Lib.hid (bel_al HB0.out (.cells (Array.replicate n (.int .i64 0)) 3))
  have Hne : RowKit.Hid (b0 ≠ W0.heap.size) := Lib.hid (by have := HX.out.lt; omega)
  have Hlo : RowKit.Hid (w.heap.size ≤ W0.heap.size) := Lib.hid HB0.out.size
  obtain ⟨W1, gW1⟩ : ∃ z, W0.alloc (.cells (Array.replicate n (.int .i64 0)) 3) = z := ⟨_, rfl⟩
  obtain ⟨gl, ggl⟩ : ∃ z, W0.heap.size = z := ⟨_, rfl⟩
  rw [gW1, ggl] at HO0
  rw [gW1] at HX1 HB1 ⊢
  rw [ggl] at Hne Hlo ⊢
  clear gW1 ggl HX HX0 HB0 HS0
  go_loopw [18] (fun si wr => ∃ j : Nat, j ≤ n ∧ si = .int .i64 j ∧ RowKit.Hid (Below w.heap.size w wr) ∧ RowKit.Hid (Whole wr b0 25 [.slice A n c, .slice B m k]) ∧ RowKit.Hid (wr.ownsRow w.heap.size 3 1 (.slice (some ⟨gl, 0, none⟩) n n) n (rowsV n1 (upN j ++ List.replicate (n - j) 0)))) (fun si _ => n - (intOf si).toNat)
  case atStart => exact ⟨0, by omega, rfl, HB1, HX1, HO0⟩
  case round =>
    clear HB1 HX1 HO0
    obtain ⟨j, hj, rfl, HB, HX, HO⟩ := hrel
    obtain ⟨wo, gwo⟩ : ∃ z, wr = z := ⟨_, rfl⟩
    rw [gwo] at HB HX HO ⊢
    clear gwo
    by_cases hjn : j < n
    · obtain ⟨g2, junk, e, hlo, hw, hc, hf, ho⟩ := own_poke (i := 0) (y := (j : Int)) (u := .int .i64 (j : Int)) n1_len HO.out (up_at n j hjn) hjn (by omega) rfl
      obtain rfl : gl = g2 := by
        injection e with e
        injection e
      rw [up_set n j hjn, show (j * 1 + 0 : Nat) = j by omega] at ho
      have hc0 : wo.cell? ⟨gl, j, none⟩ = some (.int .i64 0) := by have := hc.trans (show (n1 0)[0]? = some (.int .i64 0) from rfl); simpa using this
      have hf0 : wo.frozen? ⟨gl, j, none⟩ = false := by simpa using hf
      have HO2 := Lib.hid ho
      have HX2 := Lib.hid (HX.out.set_far' (i := j) Hne.out (.int .i64 (j : Int)))
      have HB2 := Lib.hid (HB.out.setCell (p := ⟨gl, j, none⟩) Hlo.out (.int .i64 (j : Int)))
      clear e hlo hw hc hf ho HO HX HB
      go_wp2
      go_roundw
      case rel => exact ⟨j + 1, by omega, by go_num, HB2, HX2, HO2⟩
      case measure => simp [intOf]; omega
    · obtain rfl : n = j := by omega
      have hO := HO.out
      rw [Nat.sub_self, List.replicate_zero, List.append_nil] at hO
      have HOa := Lib.hid (own_up hO (below1 wo (.map #[] 0)))
      have HMa : RowKit.Hid (EndsM (wo.alloc (.map #[] 0)) wo.heap.size (0 * 1000000) (fun _ => none)) := Lib.hid (show MapF _ keyID _ _ _ from (MapF.made).mono (by omega))
      have HBa := Lib.hid (bel_al HB.out (.map #[] 0))
      have Hbm : RowKit.Hid (gl ≠ wo.heap.size) := Lib.hid (by have h1 := (own_lt hO rfl).2; have h2 : gl < wo.heap.size := h1; omega)
      have Hbl : RowKit.Hid (w.heap.size ≤ wo.heap.size) := Lib.hid HB.out.size
      have c0 := (HX.out.alloc (.map #[] 0)).cell (i := 0) rfl
      have HS0 : RowKit.Hid (StOk n (upN n, fun _ => none)) := Lib.hid ⟨by simp [upN], fun y j h => (by cases h)⟩
      have HF0 : RowKit.Hid (lab = (labV 0 (Vs.drop 0) (upN n, fun _ => none)).1) := Lib.hid (by rw [← HL0.out, List.drop_zero, labF, Hlv.out])
      clear hO HO
      go_wp2
      clear c0 hmm
      obtain ⟨W2, gW2⟩ : ∃ z, wo.alloc (.map #[] 0) = z := ⟨_, rfl⟩
      obtain ⟨bm, gbm⟩ : ∃ z, wo.heap.size = z := ⟨_, rfl⟩
      rw [gW2] at HOa HMa HBa ⊢
      rw [gbm] at HMa Hbm Hbl ⊢
      clear gW2 gbm HB HX
      go_loopw [30] (fun si wr => ∃ (i : Nat) (s : St), i ≤ n ∧ si = .int .i64 i ∧ RowKit.Hid (Below w.heap.size w wr) ∧ RowKit.Hid (wr.ownsRow w.heap.size 3 1 (.slice (some ⟨gl, 0, none⟩) n n) n (rowsV n1 s.1)) ∧ RowKit.Hid (EndsM wr bm (i * 1000000) s.2) ∧ RowKit.Hid (StOk n s) ∧ RowKit.Hid (lab = (labV i (Vs.drop i) s).1)) (fun si _ => n - (intOf si).toNat)
      case atStart => exact ⟨0, _, by omega, rfl, HBa, HOa, HMa, HS0, HF0⟩
      case round =>
        clear HBa HOa HMa HS0 HF0
        obtain ⟨i, s, hi, rfl, HB, HO, HM, HS, HF⟩ := hrel
        obtain ⟨wo, gwo⟩ : ∃ z, wr = z := ⟨_, rfl⟩
        rw [gwo] at HB HO HM ⊢
        clear gwo
        by_cases hin : i < n
        · obtain ⟨v, hx⟩ : ∃ v, Vs[i]? = some v := ⟨_, List.getElem?_eq_getElem (by have := Hlv.out; omega)⟩
          have hdr : Vs.drop i = v :: Vs.drop (i + 1) := by
            rw [List.drop_eq_getElem_cons (List.getElem?_eq_some_iff.1 hx).1, (List.getElem?_eq_some_iff.1 hx).2]
          have hvm := List.mem_of_getElem? hx
          have hrg := HRg.out v hvm
          have hrn := Hhr.out v hvm
          have hwf := Hhv.out v hvm
          have hF := HF.out
          rw [hdr, labV] at hF
          obtain ⟨bb, off, rfl, hbB, hpl⟩ := HV.out.place vC_len (by decide) (by omega)
          have hbw := HB.out
          have q0 := hpl i _ hx 0 _ rfl
          have q1 := hpl i _ hx 1 _ rfl
          have q2 := hpl i _ hx 2 _ rfl
          have q3 := hpl i _ hx 3 _ rfl
          have q4 := hpl i _ hx 4 _ rfl
          simp only [Addr.add_lit, Nat.add_zero] at q0 q1 q2 q3 q4
          have l0 := (hbw.cell (p := ⟨bb, off + i * 5, none⟩) hbB).trans q0
          have l1 := (hbw.cell (p := ⟨bb, off + i * 5 + 1, none⟩) hbB).trans q1
          have l2 := (hbw.cell (p := ⟨bb, off + i * 5 + 2, none⟩) hbB).trans q2
          have l3 := (hbw.cell (p := ⟨bb, off + i * 5 + 3, none⟩) hbB).trans q3
          have l4 := (hbw.cell (p := ⟨bb, off + i * 5 + 4, none⟩) hbB).trans q4
          clear hbw q0 q1 q2 q3 q4
          obtain ⟨⟨i1, i2⟩, ⟨rA, rn, rc, rL⟩, lb, at_⟩ := v
          replace hrn : rn ≤ 1000000 := hrn
          have HR : RowKit.Hid (RdS w w.heap.size 3 rA rn rc (dartsV rL)) := Lib.hid hrg.2
          have Hlr := Lib.hid HR.out.dlen
          have Hwf : RowKit.Hid (∀ d ∈ rL, wfD d) := Lib.hid hwf
          have HF1 : RowKit.Hid (lab = (labV (i + 1) (Vs.drop (i + 1)) ((rL.drop 0).foldl (stepD i) s)).1) := Lib.hid hF
          have HBb := Lib.hid (bel_al HB.out (.cells #[.int .i64 i1, .int .i64 i2, .slice rA rn rc, .string lb, .int .i64 at_] 42))
          have HOb := Lib.hid (own_up HO.out (below1 wo (.cells #[.int .i64 i1, .int .i64 i2, .slice rA rn rc, .string lb, .int .i64 at_] 42)))
          have HMb := Lib.hid ((HM.out.mono (show i * 1000000 ≤ i * 1000000 + 0 by omega)).al (.cells #[.int .i64 i1, .int .i64 i2, .slice rA rn rc, .string lb, .int .i64 at_] 42))
          clear hx hdr hvm hrg hwf hF hpl hbB HF HO HM
          go_wp2
          clear l0 l1 l2 l3 l4 HB
          go_loopw [38] (fun sj wr => ∃ (j : Nat) (s : St), j ≤ rn ∧ sj = .int .i64 j ∧ RowKit.Hid (Below w.heap.size w wr) ∧ RowKit.Hid (wr.ownsRow w.heap.size 3 1 (.slice (some ⟨gl, 0, none⟩) n n) n (rowsV n1 s.1)) ∧ RowKit.Hid (EndsM wr bm (i * 1000000 + j) s.2) ∧ RowKit.Hid (StOk n s) ∧ RowKit.Hid (lab = (labV (i + 1) (Vs.drop (i + 1)) ((rL.drop j).foldl (stepD i) s)).1)) (fun sj _ => rn - (intOf sj).toNat)
          case atStart => exact ⟨0, s, by omega, rfl, HBb, HOb, HMb, HS, HF1⟩
          case round =>
            clear HBb HOb HMb HS HF1
            obtain ⟨j, s, hj, rfl, HB, HO, HM, HS, HF⟩ := hrel
            obtain ⟨wi, gwi⟩ : ∃ z, wr = z := ⟨_, rfl⟩
            rw [gwi] at HB HO HM ⊢
            clear gwi
            by_cases hjr : j < rn
            · obtain ⟨b, of2, rfl, hb, hc⟩ := (HR.out.up HB.out HB.out.size).darts (by omega)
              have hjl : j < rL.length := by have := Hlr.out; omega
              obtain ⟨d1, d2, d3⟩ := hc j hjl
              obtain ⟨x, gx⟩ : ∃ v, rL.getD j (0, 0, 0) = v := ⟨_, rfl⟩
              have gx2 : rL[j] = x := by rw [← gx, List.getD_eq_getElem?_getD, List.getElem?_eq_getElem hjl]; rfl
              have hxm : x ∈ rL := by rw [← gx2]; exact List.getElem_mem hjl
              have hdr : rL.drop j = x :: rL.drop (j + 1) := by rw [List.drop_eq_getElem_cons hjl, gx2]
              have hwx := Hwf.out x hxm
              rw [gx] at d1 d2 d3
              have hF := HF.out
              rw [hdr, List.foldl_cons] at hF
              have HF1 := Lib.hid hF
              have HS1 := Lib.hid (HS.out.step hin x)
              obtain ⟨x1, x2, x3⟩ := x
              have Hx : RowKit.Hid (wfI (x1, x2)) := Lib.hid ⟨hwx.1, hwx.2.1⟩
              have HBc := Lib.hid (bel_al HB.out (.cells #[.int .i64 x1, .int .i64 x2, .int .i64 x3] 39))
              have HOc := Lib.hid (own_up HO.out (below1 wi (.cells #[.int .i64 x1, .int .i64 x2, .int .i64 x3] 39)))
              have HMc := Lib.hid (HM.out.al (.cells #[.int .i64 x1, .int .i64 x2, .int .i64 x3] 39))
              obtain ⟨t, gt⟩ : ∃ t, s.2 (x1, x2) = t := ⟨_, rfl⟩
              have Gt := Lib.hid gt
              clear hc hb gx gx2 hxm hdr hjl hF hwx HF gt HB HO HM
              cases t with
              | none =>
                have HE : RowKit.Hid (stepD i s (x1, x2, x3) = (s.1, fun y => if y = (x1, x2) then some i else s.2 y)) := Lib.hid (by unfold stepD; simp [Gt.out])
                have hs1 := HS1.out
                rw [HE.out] at hs1
                have hf1 := HF1.out
                rw [HE.out] at hf1
                have HS2 := Lib.hid hs1
                have HF2 := Lib.hid hf1
                clear hs1 hf1 HE
                go_upto_region 14 with fail
                refine wp_region_lit ?_
                refine wl_read (v := ?_) (some 43) rfl (by rfl) ?_ ?_
                rotate_left
                · go_simp; (try with_reducible rfl)
                simp only [Act.put, List.setIfInBounds_toArray, List.set_cons_zero, List.set_cons_succ]
                refine wl_read (v := ?_) (some 44) rfl (by rfl) ?_ ?_
                rotate_left
                · go_simp; (try with_reducible rfl)
                simp only [Act.put, List.setIfInBounds_toArray, List.set_cons_zero, List.set_cons_succ]
                refine wl_read (v := ?_) (some 45) rfl (by rfl) ?_ ?_
                rotate_left
                · go_simp; (try with_reducible rfl)
                simp only [Act.put, List.setIfInBounds_toArray, List.set_cons_zero, List.set_cons_succ]
                refine wl_endsNo rfl _ _ rfl rfl (by exact HMc.out) (x1, x2) Hx.out rfl Gt.out ?_
                simp only [Act.put, List.setIfInBounds_toArray, List.set_cons_zero, List.set_cons_succ]
                go_upto_region 17 with fail
                refine wp_region_lit ?_
                refine wl_read (v := ?_) (some 60) rfl (by rfl) ?_ ?_
                rotate_left
                · go_simp; (try with_reducible rfl)
                simp only [Act.put, List.setIfInBounds_toArray, List.set_cons_zero, List.set_cons_succ]
                refine wl_read (v := ?_) (some 61) rfl (by rfl) ?_ ?_
                rotate_left
                · go_simp; (try with_reducible rfl)
                simp only [Act.put, List.setIfInBounds_toArray, List.set_cons_zero, List.set_cons_succ]
                refine wl_read (v := ?_) (some 62) rfl (by rfl) ?_ ?_
                rotate_left
                · go_simp; (try with_reducible rfl)
                simp only [Act.put, List.setIfInBounds_toArray, List.set_cons_zero, List.set_cons_succ]
                refine wl_read (v := ?_) (some 63) rfl (by rfl) ?_ ?_
                rotate_left
                · go_simp; (try with_reducible rfl)
                simp only [Act.put, List.setIfInBounds_toArray, List.set_cons_zero, List.set_cons_succ]
                have hcnt : i * 1000000 + j < maxLen := by unfold maxLen; omega
                refine wl_endsPut rfl _ _ _ rfl rfl (by exact HMc.out) hcnt (x1, x2) Hx.out rfl rfl ?_
                intro w3 hm3 hg3
                have hne : some bm ≠ (Value.slice (some (⟨gl, 0, none⟩ : Addr)) n n).ownBlock := fun e => Hbm.out (Option.some.inj e).symm
                have HM3 : RowKit.Hid (EndsM w3 bm (i * 1000000 + (j + 1)) (fun y => if y = (x1, x2) then some i else s.2 y)) := Lib.hid (hm3.mono (by omega))
                have HO3 := Lib.hid (HOc.out.kept (row := some bm) hg3 (by first | exact hne | exact hne.symm | exact .inr hne | exact .inr hne.symm))
                have HB3 := Lib.hid (bel_grown HBc.out hg3 Hbl.out)
                clear hm3 hg3 hne hcnt
                go_wp2
                go_roundw
                case rel => exact ⟨j + 1, (s.1, fun y => if y = (x1, x2) then some i else s.2 y), by omega, by go_num, HB3, HO3, HM3, HS2, HF2⟩
                case measure => simp [intOf]; omega
              | some j2 =>
                have HE : RowKit.Hid (stepD i s (x1, x2, x3) = (joinF s.1 (s.1.getD i 0) (s.1.getD j2 0), s.2)) := Lib.hid (by unfold stepD; simp [Gt.out])
                have hj2 : j2 < n := HS.out.lt _ _ Gt.out
                obtain ⟨a, ga⟩ : ∃ z, s.1.getD i 0 = z := ⟨_, rfl⟩
                obtain ⟨b, gb⟩ : ∃ z, s.1.getD j2 0 = z := ⟨_, rfl⟩
                have hca := n1_at HOc.out HS.out.len hin
                have hcb := n1_at HOc.out HS.out.len hj2
                rw [ga] at HE hca
                rw [gb] at HE hcb
                clear ga gb
                have hs1 := HS1.out
                rw [HE.out] at hs1
                have hf1 := HF1.out
                rw [HE.out] at hf1
                have HS2 := Lib.hid hs1
                have HF2 := Lib.hid hf1
                clear hs1 hf1 HE
                go_upto_region 14 with fail
                refine wp_region_lit ?_
                refine wl_read (v := ?_) (some 43) rfl (by rfl) ?_ ?_
                rotate_left
                · go_simp; (try with_reducible rfl)
                simp only [Act.put, List.setIfInBounds_toArray, List.set_cons_zero, List.set_cons_succ]
                refine wl_read (v := ?_) (some 44) rfl (by rfl) ?_ ?_
                rotate_left
                · go_simp; (try with_reducible rfl)
                simp only [Act.put, List.setIfInBounds_toArray, List.set_cons_zero, List.set_cons_succ]
                refine wl_read (v := ?_) (some 45) rfl (by rfl) ?_ ?_
                rotate_left
                · go_simp; (try with_reducible rfl)
                simp only [Act.put, List.setIfInBounds_toArray, List.set_cons_zero, List.set_cons_succ]
                refine wl_endsYes rfl _ _ rfl rfl (by exact HMc.out) (x1, x2) Hx.out rfl Gt.out ?_
                simp only [Act.put, List.setIfInBounds_toArray, List.set_cons_zero, List.set_cons_succ]
                go_upto_region 16 with fail
                clear d1 d2 d3
                obtain ⟨W3, gW3⟩ : ∃ z, wi.alloc (.cells #[.int .i64 x1, .int .i64 x2, .int .i64 x3] 39) = z := ⟨_, rfl⟩
                rw [gW3] at HBc HOc HMc hca hcb ⊢
                clear gW3
                refine wp_region_in4 9 2 (fun z => z = gl) (gamJ gl n i j2 a b) (Ext W3.drew) (by kernel_rfl) (by kernel_rfl) (by kernel_rfl) (by kernel_rfl) (by kernel_rfl) (fun q v w1 w2 h hx => gamJ_up q v w1 w2 h hx) (fun _ _ h k => h.trans k) (Ext.refl _) ?_ ?_
                · intro q hq9
                  have hcase : q = 0 ∨ q = 1 ∨ q = 2 ∨ q = 3 ∨ q = 4 ∨ q = 5 ∨ q = 6 ∨ q = 7 ∨ q = 8 := by omega
                  rcases hcase with rfl | rfl | rfl | rfl | rfl | rfl | rfl | rfl | rfl
                  · intro o ho x y hg hdep
                    simp only [List.getElem?_toArray, List.getElem?_cons_succ, List.getElem?_cons_zero, Option.some.injEq] at ho
                    subst ho
                    simp only [dsts, List.map_cons, List.map_nil, putAll, Act.put, List.setIfInBounds_toArray, List.set_cons_zero, List.set_cons_succ]
                    refine .inl ⟨by rfl, ?_⟩
                    go_simp
                    exact ⟨Ext.refl _, rfl⟩
                  · intro o ho x y hg hdep
                    simp only [List.getElem?_toArray, List.getElem?_cons_succ, List.getElem?_cons_zero, Option.some.injEq] at ho
                    subst ho
                    simp only [dsts, List.map_cons, List.map_nil, putAll, Act.put, List.setIfInBounds_toArray, List.set_cons_zero, List.set_cons_succ]
                    refine .inl ⟨by rfl, ?_⟩
                    go_simp
                    exact ⟨Ext.refl _, rfl⟩
                  · intro o ho x y hg hdep
                    simp only [List.getElem?_toArray, List.getElem?_cons_succ, List.getElem?_cons_zero, Option.some.injEq] at ho
                    subst ho
                    simp only [dsts, List.map_cons, List.map_nil, putAll, Act.put, List.setIfInBounds_toArray, List.set_cons_zero, List.set_cons_succ]
                    refine .inl ⟨by rfl, ?_⟩
                    go_simp
                    exact ⟨Ext.refl _, rfl⟩
                  · intro o ho x y hg hdep
                    simp only [List.getElem?_toArray, List.getElem?_cons_succ, List.getElem?_cons_zero, Option.some.injEq] at ho
                    subst ho
                    have d1 : x 1 = .slice (some ⟨gl, 0, none⟩) n n := hdep 1 (by decide)
                    have d2 : x 2 = .int .i64 (i : Int) := hdep 2 (by decide)
                    simp only [dsts, List.map_cons, List.map_nil, putAll, Act.put, List.setIfInBounds_toArray, List.set_cons_zero, List.set_cons_succ]
                    simp only [d1, d2]
                    refine .inl ⟨by rfl, ?_⟩
                    go_simp
                    exact ⟨Ext.refl _, rfl⟩
                  · intro o ho x y hg hdep
                    simp only [List.getElem?_toArray, List.getElem?_cons_succ, List.getElem?_cons_zero, Option.some.injEq] at ho
                    subst ho
                    have hc := hg.cell (p := ⟨gl, i, none⟩) hca
                    have d3 : x 3 = .pointer (some ⟨gl, i, none⟩) := hdep 3 (by decide)
                    simp only [dsts, List.map_cons, List.map_nil, putAll, Act.put, List.setIfInBounds_toArray, List.set_cons_zero, List.set_cons_succ]
                    simp only [d3]
                    refine .inl ⟨by rfl, ?_⟩
                    go_simp
                    exact ⟨Ext.refl _, rfl⟩
                  · intro o ho x y hg hdep
                    simp only [List.getElem?_toArray, List.getElem?_cons_succ, List.getElem?_cons_zero, Option.some.injEq] at ho
                    subst ho
                    simp only [dsts, List.map_cons, List.map_nil, putAll, Act.put, List.setIfInBounds_toArray, List.set_cons_zero, List.set_cons_succ]
                    refine .inl ⟨by rfl, ?_⟩
                    go_simp
                    exact ⟨Ext.refl _, rfl⟩
                  · intro o ho x y hg hdep
                    simp only [List.getElem?_toArray, List.getElem?_cons_succ, List.getElem?_cons_zero, Option.some.injEq] at ho
                    subst ho
                    simp only [dsts, List.map_cons, List.map_nil, putAll, Act.put, List.setIfInBounds_toArray, List.set_cons_zero, List.set_cons_succ]
                    refine .inl ⟨by rfl, ?_⟩
                    go_simp
                    exact ⟨Ext.refl _, rfl⟩
                  · intro o ho x y hg hdep
                    simp only [List.getElem?_toArray, List.getElem?_cons_succ, List.getElem?_cons_zero, Option.some.injEq] at ho
                    subst ho
                    have d5 : x 5 = .slice (some ⟨gl, 0, none⟩) n n := hdep 5 (by decide)
                    have d6 : x 6 = .int .i64 (j2 : Int) := hdep 6 (by decide)
                    simp only [dsts, List.map_cons, List.map_nil, putAll, Act.put, List.setIfInBounds_toArray, List.set_cons_zero, List.set_cons_succ]
                    simp only [d5, d6]
                    refine .inl ⟨by rfl, ?_⟩
                    go_simp
                    exact ⟨Ext.refl _, rfl⟩
                  · intro o ho x y hg hdep
                    simp only [List.getElem?_toArray, List.getElem?_cons_succ, List.getElem?_cons_zero, Option.some.injEq] at ho
                    subst ho
                    have hc := hg.cell (p := ⟨gl, j2, none⟩) hcb
                    have d7 : x 7 = .pointer (some ⟨gl, j2, none⟩) := hdep 7 (by decide)
                    simp only [dsts, List.map_cons, List.map_nil, putAll, Act.put, List.setIfInBounds_toArray, List.set_cons_zero, List.set_cons_succ]
                    simp only [d7]
                    refine .inl ⟨by rfl, ?_⟩
                    go_simp
                    exact ⟨Ext.refl _, rfl⟩
                intro x y hg hall
                have d0 : x 0 = .slice (some ⟨gl, 0, none⟩) n n := hall 0 (by decide)
                have d4 : x 4 = .int .i64 a := hall 4 (by decide)
                have d8 : x 8 = .int .i64 b := hall 8 (by decide)
                simp only [dsts, List.map_cons, List.map_nil, putAll, Act.put, List.setIfInBounds_toArray, List.set_cons_zero, List.set_cons_succ]
                simp only [d0, d4, d8]
                have HOy := Lib.hid (own_up (own_up HOc.out ((Below.refl _ _).drew)) hg)
                have HMy := Lib.hid (HMc.out.dr.bl hg)
                have HBy := Lib.hid (bel_bl (bel_dr HBc.out) hg)
                clear hg hall d0 d4 d8 hca hcb HOc HMc HBc
                apply wpR_call 9 (some 59)
                · simp only [List.getElem?_toArray, List.getElem?_cons_succ, List.getElem?_cons_zero]; exact rfl
                · rfl
                · kernel_rfl
                · rfl
                · intro w'; go_simp; first | done | exact ⟨rfl, rfl⟩ | with_reducible rfl
                intro w' hw'
                refine (HJ.out gl s.1 a b w.heap.size w' (own_up HOy.out hw') HS.out.len).mono ?_
                rintro e w9 ⟨rfl, ho9, hk9⟩
                refine ⟨_, rfl, hk9, ?_⟩
                have h := bel_bl HBy.out hw'
                have HB9 : RowKit.Hid (Below w.heap.size w w9) := Lib.hid ⟨hk9.os.trans h.os, hk9.tape.trans h.tape, hk9.output.trans h.output, Nat.le_trans h.size hk9.size, fun z hz => (hk9.block z (Nat.lt_of_lt_of_le hz h.size) (fun e => by have := Hlo.out; omega)).trans (h.block z hz)⟩
                have HM9 := Lib.hid ((HMy.out.bl hw').kept hk9 (fun e => Hbm.out e.symm))
                have HO9 := Lib.hid ho9
                obtain ⟨V9, gV9⟩ : ∃ z, w9 = z := ⟨_, rfl⟩
                rw [gV9] at HB9 HM9 HO9 ⊢
                clear hw' h ho9 hk9 gV9 HOy HMy HBy
                simp only [Act.put, List.setIfInBounds_toArray, List.set_cons_zero, List.set_cons_succ]
                refine wpR_done (by kernel_rfl) ?_ _
                intro W8 hw8
                have HB8 := Lib.hid (bel_bl HB9.out hw8)
                have HM8 := Lib.hid ((HM9.out.bl hw8).mono (show i * 1000000 + j ≤ i * 1000000 + (j + 1) by omega))
                have HO8 := Lib.hid (own_up HO9.out hw8)
                clear hw8 HB9 HM9 HO9
                go_wp2
                go_roundw
                case rel => exact ⟨j + 1, (joinF s.1 a b, s.2), by omega, by go_num, HB8, HO8, HM8, HS2, HF2⟩
                case measure => simp [intOf]; omega
            · obtain rfl : rn = j := by omega
              have HF2 : RowKit.Hid (lab = (labV (i + 1) (Vs.drop (i + 1)) s).1) := Lib.hid (by
                have h1 := HF.out
                have e1 : rL.drop rn = [] := List.drop_eq_nil_of_le (by have := Hlr.out; omega)
                rw [e1] at h1
                exact h1)
              have HM2 := Lib.hid (HM.out.mono (show i * 1000000 + rn ≤ (i + 1) * 1000000 by omega))
              clear HF HM
              go_wp2
              go_roundw
              case rel => exact ⟨i + 1, s, by omega, by go_num, HB, HO, HM2, HS, HF2⟩
              case measure => simp [intOf]; omega
        · obtain rfl : n = i := by omega
          have hF := HF.out
          rw [List.drop_eq_nil_of_le (by have := Hlv.out; omega)] at hF
          replace hF : lab = s.1 := hF
          have HO9 : RowKit.Hid (wo.ownsRow w.heap.size 3 1 (.slice (some ⟨gl, 0, none⟩) n n) n (rowsV n1 lab)) := Lib.hid (by rw [hF]; exact HO.out)
          clear hF HF HO
          go_wp2
          go_ret
          exact ⟨gl, rfl, HO9.out, HB.out⟩
end Go.Proofs.Ytpindjknngcccaa

/- comp.place. -/
namespace Go.Proofs.Ytpindjknngcccaa
open Go.RowKit
set_option linter.unusedSimpArgs false
set_option linter.unusedVariables false


/-- The place of a vertex; -1: there is none. -/
def placeF : Nat → List VC → I2 → Int
  | _, [], _ => -1
  | j, v :: r, x => if v.1 = x then (j : Int) else placeF (j + 1) r x
end Go.Proofs.Ytpindjknngcccaa

/- comp.Together. -/
namespace Go.Proofs.Ytpindjknngcccaa
open Go.RowKit
set_option linter.unusedSimpArgs false
set_option linter.unusedVariables false


theorem place_lt : ∀ (Vs : List VC) (j : Nat) (x : I2), placeF j Vs x = -1 ∨ ∃ i : Nat, placeF j Vs x = (i : Int) ∧ j ≤ i ∧ i < j + Vs.length
  | [], _, _ => .inl rfl
  | v :: r, j, x => by
    rw [placeF]
    split
    · exact .inr ⟨j, rfl, Nat.le_refl _, by simp⟩
    · rcases place_lt r (j + 1) x with h | ⟨i, h1, h2, h3⟩
      · exact .inl h
      · exact .inr ⟨i, h1, by omega, by simp only [List.length_cons]; omega⟩
/-- Whether two names are of vertices that hang together. -/
def togF (Vs : List VC) (x y : I2) : Bool :=
  if placeF 0 Vs x < 0 ∨ placeF 0 Vs y < 0 then false else (labF Vs).getD (placeF 0 Vs x).toNat 0 == (labF Vs).getD (placeF 0 Vs y).toNat 0
theorem rds_n1 {W : World} {B g n c : Nat} {L : List Int} (h : RdS W B 1 (some ⟨g, 0, none⟩) n c (rowsV n1 L)) (hl : L.length = n) {i : Nat} (hi : i < n) : W.cell? ⟨g, i, none⟩ = some (.int .i64 (L.getD i 0)) := by
  obtain ⟨x, hx⟩ : ∃ x, L[i]? = some x := ⟨_, List.getElem?_eq_getElem (by omega)⟩
  have h1 := h.elem n1_len hx 0 _ rfl
  simp only [Addr.add_lit, Nat.add_zero, Nat.zero_add, Nat.mul_one] at h1
  rw [List.getD_eq_getElem?_getD, hx]
  exact h1
theorem labV_len : ∀ (Vs : List VC) (i : Nat) (s : St), (labV i Vs s).1.length = s.1.length
  | [], _, _ => rfl
  | v :: r, i, s => by
    rw [labV, labV_len r]
    generalize v.2.1.2.2.2 = R
    induction R generalizing s with
    | nil => rfl
    | cons x R ih =>
      rw [List.foldl_cons, ih]
      unfold stepD
      split
      · exact joinF_len _ _ _
      · rfl
theorem labF_len (Vs : List VC) : (labF Vs).length = Vs.length := by
  rw [labF, labV_len]
  simp [upN]
end Go.Proofs.Ytpindjknngcccaa

/- Labels, on numbers: none is more than its place, and the label of a label is that label. -/
namespace Go.Proofs.Ytpindjknngcccaa
open Go.RowKit
set_option linter.unusedSimpArgs false
set_option linter.unusedVariables false

/-- What is joined: a number. -/
def jf (a b x : Int) : Int := if x = a ∨ x = b then min a b else x
theorem joinF_get (L : List Int) (a b : Int) {i : Nat} (h : i < L.length) : (joinF L a b).getD i 0 = jf a b (L.getD i 0) := by
  have h2 : i < (joinF L a b).length := by rw [joinF_len]; exact h
  rw [List.getD_eq_getElem?_getD, List.getD_eq_getElem?_getD, List.getElem?_eq_getElem h2, List.getElem?_eq_getElem h]
  simp [joinF, jf]
theorem jf_le (a b x : Int) : jf a b x ≤ x := by
  unfold jf
  split
  · rename_i h
    rcases h with rfl | rfl <;> omega
  · omega
theorem jf_is (a b x : Int) : jf a b x = x ∨ jf a b x = a ∨ jf a b x = b := by
  unfold jf
  split
  · by_cases h : a ≤ b
    · exact .inr (.inl (by omega))
    · exact .inr (.inr (by omega))
  · exact .inl rfl
theorem jf_jf (a b x : Int) : jf a b (jf a b x) = jf a b x := by
  by_cases h : x = a ∨ x = b
  · have e : jf a b x = min a b := if_pos h
    rw [e]
    exact if_pos (by omega)
  · have e : jf a b x = x := if_neg h
    rw [e, e]
/-- Labels. -/
def LbOk (L : List Int) : Prop := ∀ i, i < L.length → 0 ≤ L.getD i 0 ∧ L.getD i 0 ≤ i ∧ L.getD (L.getD i 0).toNat 0 = L.getD i 0
theorem up_get (n i : Nat) (h : i < n) : (upN n).getD i 0 = (i : Int) := by
  rw [List.getD_eq_getElem?_getD, upN, List.getElem?_map, List.getElem?_range h]
  rfl
theorem LbOk.up (n : Nat) : LbOk (upN n) := fun i hi => by
  have hl : (upN n).length = n := by simp [upN]
  rw [hl] at hi
  rw [up_get n i hi, Int.toNat_natCast, up_get n i hi]
  omega
theorem LbOk.join {L : List Int} (h : LbOk L) {p q : Nat} (hp : p < L.length) (hq : q < L.length) : LbOk (joinF L (L.getD p 0) (L.getD q 0)) := fun i hi => by
  rw [joinF_len] at hi
  obtain ⟨a0, a1, a2⟩ := h p hp
  obtain ⟨b0, b1, b2⟩ := h q hq
  obtain ⟨x0, x1, x2⟩ := h i hi
  rw [joinF_get L _ _ hi]
  obtain ⟨a, ga⟩ : ∃ z, L.getD p 0 = z := ⟨_, rfl⟩
  obtain ⟨b, gb⟩ : ∃ z, L.getD q 0 = z := ⟨_, rfl⟩
  obtain ⟨x, gx⟩ : ∃ z, L.getD i 0 = z := ⟨_, rfl⟩
  rw [ga] at a0 a1 a2 ⊢
  rw [gb] at b0 b1 b2 ⊢
  rw [gx] at x0 x1 x2 ⊢
  have hle := jf_le a b x
  have hj := jf_is a b x
  have hjj := jf_jf a b x
  have key : 0 ≤ jf a b x ∧ L.getD (jf a b x).toNat 0 = jf a b x := by
    rcases hj with e | e | e
    · rw [e]; exact ⟨x0, x2⟩
    · rw [e]; exact ⟨a0, a2⟩
    · rw [e]; exact ⟨b0, b2⟩
  refine ⟨key.1, by omega, ?_⟩
  rw [joinF_get L _ _ (by omega), key.2, hjj]
theorem LbOk.step {n i : Nat} {s : St} (h : LbOk s.1) (hs : StOk n s) (hi : i < n) (x : D) : LbOk (stepD i s x).1 := by
  unfold stepD
  split
  · rename_i j hj
    exact h.join (by rw [hs.len]; exact hi) (by rw [hs.len]; exact hs.lt _ _ hj)
  · exact h
theorem fold_ok {n i : Nat} (hi : i < n) : ∀ (R : List D) (s : St), LbOk s.1 → StOk n s → LbOk (R.foldl (stepD i) s).1 ∧ StOk n (R.foldl (stepD i) s)
  | [], s, h, hs => ⟨h, hs⟩
  | x :: R, s, h, hs => fold_ok hi R _ (h.step hs hi x) (hs.step hi x)
theorem labV_ok {n : Nat} : ∀ (Vs : List VC) (i : Nat) (s : St), i + Vs.length ≤ n → LbOk s.1 → StOk n s → LbOk (labV i Vs s).1 ∧ StOk n (labV i Vs s)
  | [], _, s, _, h, hs => ⟨h, hs⟩
  | v :: r, i, s, hn, h, hs => by
    rw [List.length_cons] at hn
    obtain ⟨h1, h2⟩ := fold_ok (n := n) (i := i) (by omega) v.2.1.2.2.2 s h hs
    exact labV_ok r (i + 1) _ (by omega) h1 h2
theorem labF_ok (Vs : List VC) : LbOk (labF Vs) :=
  (labV_ok (n := Vs.length) Vs 0 _ (by omega) (LbOk.up _) ⟨by simp [upN], fun y j h => (by cases h)⟩).1
/-- In a diagram whose names are each another, a vertex is found at its place. -/
theorem place_at : ∀ (Vs : List VC) (j k : Nat) (v : VC), (Vs.map (·.1)).Nodup → Vs[k]? = some v → placeF j Vs v.1 = ((j + k : Nat) : Int)
  | [], _, _, _, _, h => by simp at h
  | u :: r, j, 0, v, _, h => by
    obtain rfl : u = v := by simpa using h
    rw [placeF, if_pos rfl]
    simp
  | u :: r, j, k + 1, v, hn, h => by
    have h1 : r[k]? = some v := by simpa using h
    rw [List.map_cons, List.nodup_cons] at hn
    have hne : u.1 ≠ v.1 := fun e => hn.1 (e ▸ List.mem_map.2 ⟨v, List.mem_of_getElem? h1, rfl⟩)
    rw [placeF, if_neg hne, place_at r (j + 1) k v hn.2 h1]
    congr 1
    omega
/-- Two vertices hang together just if their labels are the same. -/
theorem tog_at {Vs : List VC} (hn : (Vs.map (·.1)).Nodup) {i k : Nat} {u v : VC} (hu : Vs[i]? = some u) (hv : Vs[k]? = some v) : togF Vs u.1 v.1 = ((labF Vs).getD i 0 == (labF Vs).getD k 0) := by
  unfold togF
  rw [place_at Vs 0 i u hn hu, place_at Vs 0 k v hn hv, if_neg (by omega)]
  simp
end Go.Proofs.Ytpindjknngcccaa
