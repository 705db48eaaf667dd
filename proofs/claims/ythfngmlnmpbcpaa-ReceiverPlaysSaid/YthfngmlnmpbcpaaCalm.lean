/- A region that draws its order, whose operations read, or call what answers the same in every later world and only makes new memory: it may be walked in one order. -/
import Derived.WalkKit
import Derived.OrdersHeld
namespace Go.Proofs.Ythfngmlnmpbcpaa
open Go.RowKit

/-- w' is w with new blocks: nothing that was there has turned. -/
def Ext (w w' : World) : Prop := Below w.heap.size w w'
theorem Ext.refl (w : World) : Ext w w := Below.refl _ _
theorem Ext.trans {a b c : World} (h : Ext a b) (k : Ext b c) : Ext a c := Below.trans h (Below.mono k (Below.size h))
theorem Ext.cell {w w' : World} (h : Ext w w') {p : Addr} {v : Value} (hc : w.cell? p = some v) : w'.cell? p = some v := (Below.cell h (World.block_lt_of_cell? w p hc)).trans hc

section
variable {P : Program} {ops : Array Oper} {Q : Exit → Act → World → Prop} {md : Region.Mode}

/-- What an operation comes to: the value v, and a world that has only grown. -/
def Outcome (P : Program) (v : Value) (w : World) : Result Next → Prop
  | .ok (.value u) w' => u = v ∧ Ext w w'
  | .ok (.enter f args) w' => Calls P f args w' fun e w'' => e = .returned v ∧ Ext w w''
  | _ => False

/-- In state a, in w and in every world that w grows to, operation o yields v and only makes new memory. -/
def YieldsK (P : Program) (ops : Array Oper) (o : Oper) (v : Value) (a : Act) (w : World) : Prop :=
  (Region.wanted o (yielded ops a.tmps) = true ∧ ∀ w', Ext w w' → Outcome P v w' ((execOp a.eval o).run P w')) ∨
  (Region.wanted o (yielded ops a.tmps) = false ∧ v = undef)

theorem YieldsK.up {o : Oper} {v : Value} {a : Act} {w w' : World} (h : YieldsK P ops o v a w) (hw : Ext w w') : YieldsK P ops o v a w' :=
  match h with
  | .inl ⟨h1, h2⟩ => .inl ⟨h1, fun w'' h' => h2 w'' (hw.trans h')⟩
  | .inr h2 => .inr h2

theorem YieldsK.same {o : Oper} {v : Value} {a a' : Act} {w : World} (hy : YieldsK P ops o v a w) (he : execOp a'.eval o = execOp a.eval o)
    (hw : Region.wanted o (yielded ops a'.tmps) = Region.wanted o (yielded ops a.tmps)) : YieldsK P ops o v a' w := by
  unfold YieldsK at *
  rw [he, hw]
  exact hy

theorem YieldsK.wpOp {i : Nat} {o : Oper} {v : Value} {a : Act} {w : World} (hi : ops[i]? = some o) (hy : YieldsK P ops o v a w)
    {K : Act → World → Prop} (h : ∀ w', Ext w w' → K (a.put o.dst v) w') : wpOp P ops Q i K a w := by
  unfold Go.wpOp
  simp only [hi]
  rcases hy with ⟨hw, hv⟩ | ⟨hw, rfl⟩
  · simp only [hw, if_true]
    refine .inl ?_
    have h1 := hv w (Ext.refl w)
    unfold Oper.wp
    generalize (execOp a.eval o).run P w = r at *
    cases r with
    | ok n w' =>
      cases n with
      | value u =>
        obtain ⟨rfl, he⟩ := h1
        exact h _ he
      | enter f args =>
        refine Calls.mono h1 fun e w'' he => ?_
        obtain ⟨rfl, hx⟩ := he
        exact h _ hx
      | _ => exact h1.elim
    | halt x w' => exact h1.elim
  · simp only [hw, Bool.false_eq_true, if_false]
    exact h _ (Ext.refl _)

/-- The state is as a's in all that o looks at. -/
def Alike (ops : Array Oper) (o : Oper) (a a' : Act) : Prop := execOp a'.eval o = execOp a.eval o ∧ Region.wanted o (yielded ops a'.tmps) = Region.wanted o (yielded ops a.tmps)

/-- An operation oj that is apart from oi does, without oi's value, what it does with it. -/
theorem wpOp_swap {j : Nat} {oi oj : Oper} {v : Value} (hj : ops[j]? = some oj) (hap : oi.apart ops oj = true)
    (hsi : ∀ cs b, oi.op ≠ .select cs b) (hsj : ∀ cs b, oj.op ≠ .select cs b)
    (hQ : ∀ c a w, Q (.panic c) (a.put oi.dst v) w → Q (.panic c) a w) {K : Act → World → Prop} {a : Act} {w : World}
    (h : wpOp P ops Q j K (a.put oi.dst v) w) :
    wpOp P ops Q j (fun a' w' => Alike ops oi a a' ∧ K (a'.put oi.dst v) w') a w := by
  obtain ⟨h1, h2, h3⟩ := Oper.apart_spec hap
  have keep : ∀ (b : Act), Alike ops oi a b → ∀ u, Alike ops oi a (b.put oj.dst u) := fun b hb u =>
    ⟨(execOp_put oi hsi b oj.dst u h3).trans hb.1, (wanted_put oi b oj.dst u h3).trans hb.2⟩
  have k0 : Alike ops oi a a := ⟨rfl, rfl⟩
  have kD : ∀ d, Alike ops oi a { a with defers := d :: a.defers } := fun d => ⟨rfl, rfl⟩
  unfold wpOp at *
  simp only [hj] at *
  rw [wanted_put oj a oi.dst v h1] at h
  split
  · rename_i hw
    simp only [hw, if_true] at h
    rcases h with h | ⟨hasks, hlets⟩
    case inr => exact .inr ⟨by unfold Oper.asks at *; rw [execOp_put oj hsj a oi.dst v h1] at hasks; exact hasks, hlets⟩
    refine .inl ?_
    unfold Oper.wp at *
    rw [execOp_put oj hsj a oi.dst v h1] at h
    generalize (execOp a.eval oj).run P w = r at *
    cases r with
    | ok n w' =>
      cases n <;> simp only [Oper.upon] at h ⊢
      case value u => exact ⟨keep a k0 u, by rw [← Act.put_comm a v u h2]; exact h⟩
      case skip => exact ⟨keep a k0 _, by rw [← Act.put_comm a v undef h2]; exact h⟩
      case defer d =>
        refine ⟨keep _ (kD d) _, ?_⟩
        rw [← Act.put_comm _ v undef h2, ← Act.put_defers]
        exact h
      case enter f args =>
        refine Calls.mono h fun e w'' he => ?_
        cases e with
        | returned u => exact ⟨keep a k0 u, by rw [← Act.put_comm a v u h2]; exact he⟩
        | panicked c => exact hQ _ _ _ he
        | outgrown => exact he
      case row row args => exact Rows.mono h fun u w'' he => ⟨keep a k0 u, by rw [← Act.put_comm a v u h2]; exact he⟩
    | halt x w' =>
      cases x <;> simp only [Oper.upon] at h ⊢
      case panic u => exact hQ _ _ _ h
  · rename_i hw
    simp only [hw] at h
    exact ⟨keep a k0 _, by rw [← Act.put_comm a v undef h2]; exact h⟩

/-- Whatever order is picked from here on, in this world or in one that it has grown to; behind every operation the world has only grown. -/
def wpK (P : Program) (md : Region.Mode) (ops : Array Oper) (Q : Exit → Act → World → Prop) : Nat → Array Bool → Act → World → Prop
  | 0, listed, a, w => Region.ready md ops listed = [] ∧ ∀ w', Ext w w' → Q .normal a w'
  | fuel + 1, listed, a, w =>
    (Region.ready md ops listed = [] → ∀ w', Ext w w' → Q .normal a w') ∧
    ∀ w', Ext w w' → ∀ i ∈ Region.ready md ops listed, wpOp P ops Q i (fun a' w'' => Ext w' w'' ∧ wpK P md ops Q fuel (listed.setIfInBounds i true) a' w'') a w'

theorem wpK.up : ∀ {fuel : Nat} {listed : Array Bool} {a : Act} {w w' : World}, wpK P md ops Q fuel listed a w → Ext w w' → wpK P md ops Q fuel listed a w'
  | 0, _, _, _, _, h, hw => ⟨h.1, fun w'' h' => h.2 w'' (hw.trans h')⟩
  | _ + 1, _, _, _, _, h, hw => ⟨fun h0 w'' h' => h.1 h0 w'' (hw.trans h'), fun w'' h' => h.2 w'' (hw.trans h')⟩

theorem wpAny_of_K : ∀ (fuel : Nat) (listed : Array Bool) (a : Act) (w : World), wpK P md ops Q fuel listed a w → wpAny P md ops Q fuel listed a w
  | 0, _, _, w, h => ⟨h.1, h.2 w (Ext.refl w)⟩
  | fuel + 1, _, _, w, h => ⟨fun h0 => h.1 h0 w (Ext.refl w), fun i hi => wpOp_mono (fun a' w' h' => wpAny_of_K fuel _ a' w' h'.2) (h.2 w (Ext.refl w) i hi)⟩

theorem wpK_first {i : Nat} {oi : Oper} {v : Value} (hi : ops[i]? = some oi) (hsel : ∀ (j : Nat) (o : Oper) cs b, ops[j]? = some o → o.op ≠ .select cs b)
    (hQ : ∀ c a w, Q (.panic c) (a.put oi.dst v) w → Q (.panic c) a w) :
    ∀ (fuel : Nat) (listed : Array Bool) (a : Act) (w : World),
      (∀ j oj, ops[j]? = some oj → j ≠ i → listed.getD j true = false → (∀ e ∈ oj.after, Region.binds md e = true → e.on ≠ i) → oi.apart ops oj = true) →
      i ∈ Region.ready md ops listed → YieldsK P ops oi v a w →
      wpK P md ops Q fuel (listed.setIfInBounds i true) (a.put oi.dst v) w → wpK P md ops Q (fuel + 1) listed a w := by
  intro fuel
  induction fuel with
  | zero =>
    intro listed a w _ hr hy H
    refine ⟨fun h => (by rw [h] at hr; cases hr), fun w1 hw1 j hj => ?_⟩
    by_cases hji : j = i
    · subst hji
      exact (hy.up hw1).wpOp hi fun w2 hw2 => ⟨hw2, H.up (hw1.trans hw2)⟩
    · have := ready_mono hj hji
      rw [H.1] at this
      cases this
  | succ fuel ih =>
    intro listed a w hfree hr hy H
    refine ⟨fun h => (by rw [h] at hr; cases hr), fun w1 hw1 j hj => ?_⟩
    by_cases hji : j = i
    · subst hji
      exact (hy.up hw1).wpOp hi fun w2 hw2 => ⟨hw2, H.up (hw1.trans hw2)⟩
    · have h1 := H.2 w1 hw1 j (ready_mono hj hji)
      obtain ⟨hjun, oj, hoj, hall⟩ := mem_ready.1 hj
      have hnot : ∀ e ∈ oj.after, Region.binds md e = true → e.on ≠ i := fun e he hb heq => by
        have h1 := hall e he hb
        have h0 := (mem_ready.1 hr).1
        rw [heq] at h1
        rcases Nat.lt_or_ge i listed.size with h' | h'
        · simp [h'] at h0 h1
          rw [h0] at h1
          cases h1
        · simp [Array.getElem?_eq_none h'] at h1
      have h2 := wpOp_swap hoj (hfree j oj hoj hji hjun hnot) (fun cs b => hsel i oi cs b hi) (fun cs b => hsel j oj cs b hoj) hQ h1
      have hfree' : ∀ k ok, ops[k]? = some ok → k ≠ i → (listed.setIfInBounds j true).getD k true = false →
          (∀ e ∈ ok.after, Region.binds md e = true → e.on ≠ i) → oi.apart ops ok = true := fun k ok hk hki hun hno => by
        refine hfree k ok hk hki ?_ hno
        by_cases hjk : j = k
        · subst hjk
          exact hjun
        · rw [getD_set_ne true hjk] at hun
          exact hun
      refine wpOp_mono (fun a' w' h3 => ⟨h3.2.1, ih (listed.setIfInBounds j true) a' w' hfree' (ready_mono hr (Ne.symm hji)) ?_ ?_⟩) h2
      · exact (hy.up (hw1.trans h3.2.1)).same h3.1.1 h3.1.2
      · rw [Array.setIfInBounds_comm _ _ hji]
        exact h3.2.2

/-- Take operation number i next. -/
theorem wpK_take {i : Nat} {oi : Oper} {v : Value} {fuel : Nat} {listed : Array Bool} {a : Act} {w : World} (hi : ops[i]? = some oi)
    (hs : Region.noSelect ops = true) (hf : Region.free md ops listed i = true) (hr : (Region.ready md ops listed).contains i = true)
    (hQ : ∀ c a w, Q (.panic c) (a.put oi.dst v) w → Q (.panic c) a w) (hy : YieldsK P ops oi v a w)
    (h : wpK P md ops Q fuel (listed.setIfInBounds i true) (a.put oi.dst v) w) : wpK P md ops Q (fuel + 1) listed a w :=
  wpK_first hi (Region.noSelect_spec hs) hQ fuel listed a w (Region.free_spec hi hf) (by simpa using hr) hy h

/-- The same, the value found on the way: 'apply Exists.intro; apply And.intro' behind it. -/
theorem wpK_next (i : Nat) (d : Option Tmp) {oi : Oper} {fuel : Nat} {listed : Array Bool} {a : Act} {w : World} (hi : ops[i]? = some oi) (hd : oi.dst = d)
    (hs : Region.noSelect ops = true) (hf : Region.free md ops listed i = true) (hr : (Region.ready md ops listed).contains i = true)
    (hQ : ∀ v c a w, Q (.panic c) (a.put d v) w → Q (.panic c) a w)
    (h : ∃ v, YieldsK P ops oi v a w ∧ wpK P md ops Q fuel (listed.setIfInBounds i true) (a.put d v) w) : wpK P md ops Q (fuel + 1) listed a w := by
  subst hd
  obtain ⟨v, hy, hk⟩ := h
  exact wpK_take hi hs hf hr (hQ v) hy hk

theorem wpK_done {listed : Array Bool} {a : Act} {w : World} (hr : Region.ready md ops listed = []) (h : ∀ w', Ext w w' → Q .normal a w') : ∀ fuel, wpK P md ops Q fuel listed a w
  | 0 => ⟨hr, h⟩
  | _ + 1 => ⟨fun _ => h, by rw [hr]; simp⟩

/-- The beginning. -/
theorem wp_region_calm {id : Nat} {a : Act} {w : World} (hm : P.follows .mixedOrders = true)
    (h : wpK P .any ops Q ops.size (Array.replicate ops.size false) a w.drew) : (Code.region id ops true).wp P Q a w :=
  wp_region_any hm (wpAny_of_K _ _ _ _ h)

/-- An operation that is not wanted. -/
theorem yk_skip {o : Oper} {a : Act} {w : World} (h : Region.wanted o (yielded ops a.tmps) = false) : YieldsK P ops o undef a w := .inr ⟨h, rfl⟩
/-- An operation that reads. -/
theorem yk_run {o : Oper} {v : Value} {a : Act} {w : World} (h : Region.wanted o (yielded ops a.tmps) = true) (hr : ∀ w', Ext w w' → (execOp a.eval o).run P w' = .ok (.value v) w') : YieldsK P ops o v a w :=
  .inl ⟨h, fun w' hw => by rw [hr w' hw]; exact ⟨rfl, Ext.refl _⟩⟩
/-- A call. -/
theorem yk_call {o : Oper} {v : Value} {a : Act} {w : World} {f : FuncId} {args : Array Value} (h : Region.wanted o (yielded ops a.tmps) = true)
    (hr : ∀ w', (execOp a.eval o).run P w' = .ok (.enter f args) w') (hc : ∀ w', Ext w w' → Calls P f args w' fun e w'' => e = .returned v ∧ Below w'.heap.size w' w'') : YieldsK P ops o v a w :=
  .inl ⟨h, fun w' hw => by rw [hr w']; exact hc w' hw⟩
end
end Go.Proofs.Ythfngmlnmpbcpaa
