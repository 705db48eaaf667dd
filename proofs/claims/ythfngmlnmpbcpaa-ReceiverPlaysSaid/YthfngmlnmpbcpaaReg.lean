/- A region that draws its order, whose operations read, or call what answers the same in every later world; and calls that turn memory, where nothing else is ready beside them: it may be walked in one order. -/
import Derived.Test.YthfngmlnmpbcpaaCalm
import Derived.Test.YthfngmlnmpbcpaaWo
import Derived.Deep.DeepCutAuto
import Derived.LoopTactic
import Derived.Outline
import Derived.Deep.QuietTactic
import Derived.BigQuiet
import Derived.IntWalk
namespace Go.Proofs.Ythfngmlnmpbcpaa
open Go.RowKit

theorem Kept.of_ext {S : Nat → Prop} {w w' : World} (h : Ext w w') : Kept S w w' := Kept.of_below h

section
variable {P : Program} {ops : Array Oper} {Q : Exit → Act → World → Prop} {md : Region.Mode} {S : Nat → Prop}

/-- In state a, in w and in every world that w may come to within the region, operation o yields v and only makes new memory. -/
def YieldsR (P : Program) (ops : Array Oper) (S : Nat → Prop) (o : Oper) (v : Value) (a : Act) (w : World) : Prop :=
  (Region.wanted o (yielded ops a.tmps) = true ∧ ∀ w', Kept S w w' → Outcome P v w' ((execOp a.eval o).run P w')) ∨
  (Region.wanted o (yielded ops a.tmps) = false ∧ v = undef)

theorem YieldsR.up {o : Oper} {v : Value} {a : Act} {w w' : World} (h : YieldsR P ops S o v a w) (hw : Kept S w w') : YieldsR P ops S o v a w' :=
  match h with
  | .inl ⟨h1, h2⟩ => .inl ⟨h1, fun w'' h' => h2 w'' (hw.trans h')⟩
  | .inr h2 => .inr h2

theorem YieldsR.same {o : Oper} {v : Value} {a a' : Act} {w : World} (hy : YieldsR P ops S o v a w) (he : execOp a'.eval o = execOp a.eval o)
    (hw : Region.wanted o (yielded ops a'.tmps) = Region.wanted o (yielded ops a.tmps)) : YieldsR P ops S o v a' w := by
  unfold YieldsR at *
  rw [he, hw]
  exact hy

theorem YieldsR.wpOp {i : Nat} {o : Oper} {v : Value} {a : Act} {w : World} (hi : ops[i]? = some o) (hy : YieldsR P ops S o v a w)
    {K : Act → World → Prop} (h : ∀ w', Ext w w' → K (a.put o.dst v) w') : wpOp P ops Q i K a w := by
  unfold Go.wpOp
  simp only [hi]
  rcases hy with ⟨hw, hv⟩ | ⟨hw, rfl⟩
  · simp only [hw, if_true]
    refine .inl ?_
    have h1 := hv w (Kept.refl _ w)
    unfold Oper.wp
    generalize (execOp a.eval o).run P w = r at *
    cases r with
    | ok n w' =>
      cases n with
      | value u =>
        obtain ⟨rfl, he⟩ := h1
        exact h _ he
      | enter f args =>
        refine Calls.mono h1 fun e w'' he => ?_
        obtain ⟨rfl, hx⟩ := he
        exact h _ hx
      | _ => exact h1.elim
    | halt x w' => exact h1.elim
  · simp only [hw, Bool.false_eq_true, if_false]
    exact h _ (Ext.refl _)

/-- Whatever order is picked from here on, in this world or in one that it has grown to; behind every operation only what S lets has turned. -/
def wpR (P : Program) (md : Region.Mode) (ops : Array Oper) (S : Nat → Prop) (Q : Exit → Act → World → Prop) : Nat → Array Bool → Act → World → Prop
  | 0, listed, a, w => Region.ready md ops listed = [] ∧ ∀ w', Ext w w' → Q .normal a w'
  | fuel + 1, listed, a, w =>
    (Region.ready md ops listed = [] → ∀ w', Ext w w' → Q .normal a w') ∧
    ∀ w', Ext w w' → ∀ i ∈ Region.ready md ops listed, wpOp P ops Q i (fun a' w'' => Kept S w' w'' ∧ wpR P md ops S Q fuel (listed.setIfInBounds i true) a' w'') a w'

theorem wpR.up : ∀ {fuel : Nat} {listed : Array Bool} {a : Act} {w w' : World}, wpR P md ops S Q fuel listed a w → Ext w w' → wpR P md ops S Q fuel listed a w'
  | 0, _, _, _, _, h, hw => ⟨h.1, fun w'' h' => h.2 w'' (hw.trans h')⟩
  | _ + 1, _, _, _, _, h, hw => ⟨fun h0 w'' h' => h.1 h0 w'' (hw.trans h'), fun w'' h' => h.2 w'' (hw.trans h')⟩

theorem wpAny_of_R : ∀ (fuel : Nat) (listed : Array Bool) (a : Act) (w : World), wpR P md ops S Q fuel listed a w → wpAny P md ops Q fuel listed a w
  | 0, _, _, w, h => ⟨h.1, h.2 w (Ext.refl w)⟩
  | fuel + 1, _, _, w, h => ⟨fun h0 => h.1 h0 w (Ext.refl w), fun i hi => wpOp_mono (fun a' w' h' => wpAny_of_R fuel _ a' w' h'.2) (h.2 w (Ext.refl w) i hi)⟩

theorem wpR_first {i : Nat} {oi : Oper} {v : Value} (hi : ops[i]? = some oi) (hsel : ∀ (j : Nat) (o : Oper) cs b, ops[j]? = some o → o.op ≠ .select cs b)
    (hQ : ∀ c a w, Q (.panic c) (a.put oi.dst v) w → Q (.panic c) a w) :
    ∀ (fuel : Nat) (listed : Array Bool) (a : Act) (w : World),
      (∀ j oj, ops[j]? = some oj → j ≠ i → listed.getD j true = false → (∀ e ∈ oj.after, Region.binds md e = true → e.on ≠ i) → oi.apart ops oj = true) →
      i ∈ Region.ready md ops listed → YieldsR P ops S oi v a w →
      wpR P md ops S Q fuel (listed.setIfInBounds i true) (a.put oi.dst v) w → wpR P md ops S Q (fuel + 1) listed a w := by
  intro fuel
  induction fuel with
  | zero =>
    intro listed a w _ hr hy H
    refine ⟨fun h => (by rw [h] at hr; cases hr), fun w1 hw1 j hj => ?_⟩
    by_cases hji : j = i
    · subst hji
      exact (hy.up (Kept.of_ext hw1)).wpOp hi fun w2 hw2 => ⟨Kept.of_ext hw2, H.up (hw1.trans hw2)⟩
    · have := ready_mono hj hji
      rw [H.1] at this
      cases this
  | succ fuel ih =>
    intro listed a w hfree hr hy H
    refine ⟨fun h => (by rw [h] at hr; cases hr), fun w1 hw1 j hj => ?_⟩
    by_cases hji : j = i
    · subst hji
      exact (hy.up (Kept.of_ext hw1)).wpOp hi fun w2 hw2 => ⟨Kept.of_ext hw2, H.up (hw1.trans hw2)⟩
    · have h1 := H.2 w1 hw1 j (ready_mono hj hji)
      obtain ⟨hjun, oj, hoj, hall⟩ := mem_ready.1 hj
      have hnot : ∀ e ∈ oj.after, Region.binds md e = true → e.on ≠ i := fun e he hb heq => by
        have h1 := hall e he hb
        have h0 := (mem_ready.1 hr).1
        rw [heq] at h1
        rcases Nat.lt_or_ge i listed.size with h' | h'
        · simp [h'] at h0 h1
          rw [h0] at h1
          cases h1
        · simp [Array.getElem?_eq_none h'] at h1
      have h2 := wpOp_swap hoj (hfree j oj hoj hji hjun hnot) (fun cs b => hsel i oi cs b hi) (fun cs b => hsel j oj cs b hoj) hQ h1
      have hfree' : ∀ k ok, ops[k]? = some ok → k ≠ i → (listed.setIfInBounds j true).getD k true = false →
          (∀ e ∈ ok.after, Region.binds md e = true → e.on ≠ i) → oi.apart ops ok = true := fun k ok hk hki hun hno => by
        refine hfree k ok hk hki ?_ hno
        by_cases hjk : j = k
        · subst hjk
          exact hjun
        · rw [getD_set_ne true hjk] at hun
          exact hun
      refine wpOp_mono (fun a' w' h3 => ⟨h3.2.1, ih (listed.setIfInBounds j true) a' w' hfree' (ready_mono hr (Ne.symm hji)) ?_ ?_⟩) h2
      · exact (hy.up ((Kept.of_ext hw1).trans h3.2.1)).same h3.1.1 h3.1.2
      · rw [Array.setIfInBounds_comm _ _ hji]
        exact h3.2.2

/-- Take operation number i next, whose value is the same in every later world: 'apply Exists.intro; apply And.intro' behind it. -/
theorem wpR_next (i : Nat) (d : Option Tmp) {oi : Oper} {fuel : Nat} {listed : Array Bool} {a : Act} {w : World} (hi : ops[i]? = some oi) (hd : oi.dst = d)
    (hs : Region.noSelect ops = true) (hf : Region.free md ops listed i = true) (hr : (Region.ready md ops listed).contains i = true)
    (hQ : ∀ v c a w, Q (.panic c) (a.put d v) w → Q (.panic c) a w)
    (h : ∃ v, YieldsR P ops S oi v a w ∧ wpR P md ops S Q fuel (listed.setIfInBounds i true) (a.put d v) w) : wpR P md ops S Q (fuel + 1) listed a w := by
  subst hd
  obtain ⟨v, hy, hk⟩ := h
  exact wpR_first hi (Region.noSelect_spec hs) (hQ v) fuel listed a w (Region.free_spec hi hf) (by simpa using hr) hy hk

/-- Take operation number i, the only one that is ready, a call: whatever it does. -/
theorem wpR_call (i : Nat) (d : Option Tmp) {oi : Oper} {fuel : Nat} {listed : Array Bool} {a : Act} {w : World} {f : FuncId} {args : Array Value} (hi : ops[i]? = some oi) (hd : oi.dst = d)
    (hr : Region.ready md ops listed = [i]) (hw : Region.wanted oi (yielded ops a.tmps) = true)
    (he : ∀ w', (execOp a.eval oi).run P w' = .ok (.enter f args) w')
    (h : ∀ w', Ext w w' → Calls P f args w' fun e w'' => ∃ v, e = .returned v ∧ Kept S w' w'' ∧ wpR P md ops S Q fuel (listed.setIfInBounds i true) (a.put d v) w'') : wpR P md ops S Q (fuel + 1) listed a w := by
  subst hd
  refine ⟨fun h0 => (by rw [h0] at hr; cases hr), fun w1 hw1 j hj => ?_⟩
  rw [hr] at hj
  obtain rfl := List.mem_singleton.1 hj
  unfold Go.wpOp
  simp only [hi, hw, if_true]
  refine .inl ?_
  unfold Oper.wp
  rw [he w1]
  refine Calls.mono (h w1 hw1) fun e w'' hx => ?_
  obtain ⟨v, rfl, hk, hn⟩ := hx
  exact ⟨hk, hn⟩

/-- Take operation number i, the only one that is ready, whatever it does: by the laws of operations. -/
theorem wpR_only (i : Nat) {oi : Oper} {fuel : Nat} {listed : Array Bool} {a : Act} {w : World} (hi : ops[i]? = some oi)
    (hr : Region.ready md ops listed = [i]) (hw : Region.wanted oi (yielded ops a.tmps) = true)
    (h : ∀ w', Ext w w' → Oper.wp P oi a w' (fun a' w'' => Kept S w' w'' ∧ wpR P md ops S Q fuel (listed.setIfInBounds i true) a' w'') Q) : wpR P md ops S Q (fuel + 1) listed a w := by
  refine ⟨fun h0 => (by rw [h0] at hr; cases hr), fun w1 hw1 j hj => ?_⟩
  rw [hr] at hj
  obtain rfl := List.mem_singleton.1 hj
  unfold Go.wpOp
  simp only [hi, hw, if_true]
  exact .inl (h w1 hw1)

/-- Take operation number i, the only one that is ready, no call: it answers and may turn the world. -/
theorem wpR_run (i : Nat) (d : Option Tmp) {oi : Oper} {fuel : Nat} {listed : Array Bool} {a : Act} {w : World} (hi : ops[i]? = some oi) (hd : oi.dst = d)
    (hr : Region.ready md ops listed = [i]) (hw : Region.wanted oi (yielded ops a.tmps) = true)
    (h : ∀ w', Ext w w' → ∃ v w'', (execOp a.eval oi).run P w' = .ok (.value v) w'' ∧ Kept S w' w'' ∧ wpR P md ops S Q fuel (listed.setIfInBounds i true) (a.put d v) w'') : wpR P md ops S Q (fuel + 1) listed a w := by
  subst hd
  refine wpR_only i hi hr hw fun w' hx => ?_
  obtain ⟨v, w'', h1, h2, h3⟩ := h w' hx
  unfold Oper.wp
  rw [h1]
  exact ⟨h2, h3⟩

theorem exec_append {ev : Operand → Value} {o : Oper} {w w' : World} {s x : Operand} {t : TypeId} {v u v' : Value} (ho : o.op = .call { callee := .builtin .append, args := #[s, x], argTypes := #[t, t] })
    (hs : ev s = v) (hx : ev x = u) (hrun : (Builtin.append_ #[t, t] o.type #[v, u]).run P w = .ok v' w') : (execOp ev o).run P w = .ok (.value v') w' := by
  unfold execOp
  simp only [ho, resolve, invoke, builtin, Sem.run_bind, Sem.run_pure, Result.andThen_ok, List.map_toArray, List.map_cons, List.map_nil, hs, hx, hrun]

theorem wpR_done {listed : Array Bool} {a : Act} {w : World} (hr : Region.ready md ops listed = []) (h : ∀ w', Ext w w' → Q .normal a w') : ∀ fuel, wpR P md ops S Q fuel listed a w
  | 0 => ⟨hr, h⟩
  | _ + 1 => ⟨fun _ => h, by rw [hr]; simp⟩

/-- The beginning. -/
theorem wp_region_reg (S : Nat → Prop) {id : Nat} {a : Act} {w : World} (hm : P.follows .mixedOrders = true)
    (h : wpR P .any ops S Q ops.size (Array.replicate ops.size false) a w.drew) : (Code.region id ops true).wp P Q a w :=
  wp_region_any hm (wpAny_of_R _ _ _ _ h)

/-- An operation that is not wanted. -/
theorem yr_skip {o : Oper} {a : Act} {w : World} (h : Region.wanted o (yielded ops a.tmps) = false) : YieldsR P ops S o undef a w := .inr ⟨h, rfl⟩
/-- An operation that reads. -/
theorem yr_run {o : Oper} {v : Value} {a : Act} {w : World} (h : Region.wanted o (yielded ops a.tmps) = true) (hr : ∀ w', Kept S w w' → (execOp a.eval o).run P w' = .ok (.value v) w') : YieldsR P ops S o v a w :=
  .inl ⟨h, fun w' hw => by rw [hr w' hw]; exact ⟨rfl, Ext.refl _⟩⟩
/-- A call. -/
theorem yr_call {o : Oper} {v : Value} {a : Act} {w : World} {f : FuncId} {args : Array Value} (h : Region.wanted o (yielded ops a.tmps) = true)
    (hr : ∀ w', (execOp a.eval o).run P w' = .ok (.enter f args) w') (hc : ∀ w', Kept S w w' → Calls P f args w' fun e w'' => e = .returned v ∧ Below w'.heap.size w' w'') : YieldsR P ops S o v a w :=
  .inl ⟨h, fun w' hw => by rw [hr w']; exact hc w' hw⟩
end
end Go.Proofs.Ythfngmlnmpbcpaa
