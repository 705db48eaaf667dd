/- A region that draws its order, whose last operations (ts) come behind all others: those may turn what the others read. -/
import Derived.Test.YthfngmlnmpbcpaaReg
import Derived.Test.YthfngmlnmpbcpaaReg2
namespace Go.Proofs.Ythfngmlnmpbcpaa
open Go.RowKit

section
variable {P : Program} {ops : Array Oper} {Q : Exit → Act → World → Prop} {md : Region.Mode} {S : Nat → Prop} {ts : List Nat}

/-- Each of ts comes behind i. -/
def tailAll (md : Region.Mode) (ops : Array Oper) (ts : List Nat) (i : Nat) : Bool :=
  ts.all fun t => match ops[t]? with
    | some ot => ot.after.toList.any (fun e => Region.binds md e && e.on == i)
    | none => true
theorem tailAll_spec {i : Nat} (h : tailAll md ops ts i = true) : ∀ j oj, ops[j]? = some oj → j ∈ ts → ∃ e ∈ oj.after, Region.binds md e = true ∧ e.on = i := by
  intro j oj hj hm
  have h1 := List.all_eq_true.1 h j hm
  rw [hj] at h1
  obtain ⟨e, he, h2⟩ := List.any_eq_true.1 h1
  rw [Bool.and_eq_true, beq_iff_eq] at h2
  exact ⟨e, Array.mem_toList_iff.1 he, h2⟩
/-- Whatever order is picked from here on, in this world or in one that it has grown to; behind every operation only what S lets has turned. -/
def wpT (P : Program) (md : Region.Mode) (ops : Array Oper) (S : Nat → Prop) (ts : List Nat) (Q : Exit → Act → World → Prop) : Nat → Array Bool → Act → World → Prop
  | 0, listed, a, w => Region.ready md ops listed = [] ∧ ∀ w', Ext w w' → Q .normal a w'
  | fuel + 1, listed, a, w =>
    (Region.ready md ops listed = [] → ∀ w', Ext w w' → Q .normal a w') ∧
    ∀ w', Ext w w' → ∀ i ∈ Region.ready md ops listed, wpOp P ops Q i (fun a' w'' => (i ∉ ts → Kept S w' w'') ∧ wpT P md ops S ts Q fuel (listed.setIfInBounds i true) a' w'') a w'

theorem wpT.up : ∀ {fuel : Nat} {listed : Array Bool} {a : Act} {w w' : World}, wpT P md ops S ts Q fuel listed a w → Ext w w' → wpT P md ops S ts Q fuel listed a w'
  | 0, _, _, _, _, h, hw => ⟨h.1, fun w'' h' => h.2 w'' (hw.trans h')⟩
  | _ + 1, _, _, _, _, h, hw => ⟨fun h0 w'' h' => h.1 h0 w'' (hw.trans h'), fun w'' h' => h.2 w'' (hw.trans h')⟩

theorem wpAny_of_T : ∀ (fuel : Nat) (listed : Array Bool) (a : Act) (w : World), wpT P md ops S ts Q fuel listed a w → wpAny P md ops Q fuel listed a w
  | 0, _, _, w, h => ⟨h.1, h.2 w (Ext.refl w)⟩
  | fuel + 1, _, _, w, h => ⟨fun h0 => h.1 h0 w (Ext.refl w), fun i hi => wpOp_mono (fun a' w' h' => wpAny_of_T fuel _ a' w' h'.2) (h.2 w (Ext.refl w) i hi)⟩

theorem wpT_first {i : Nat} {oi : Oper} {v : Value} (hi : ops[i]? = some oi) (hsel : ∀ (j : Nat) (o : Oper) cs b, ops[j]? = some o → o.op ≠ .select cs b)
    (hQ : ∀ c a w, Q (.panic c) (a.put oi.dst v) w → Q (.panic c) a w) (hts : ∀ j oj, ops[j]? = some oj → j ∈ ts → ∃ e ∈ oj.after, Region.binds md e = true ∧ e.on = i) :
    ∀ (fuel : Nat) (listed : Array Bool) (a : Act) (w : World),
      (∀ j oj, ops[j]? = some oj → j ≠ i → listed.getD j true = false → (∀ e ∈ oj.after, Region.binds md e = true → e.on ≠ i) → oi.apart ops oj = true) →
      i ∈ Region.ready md ops listed → YieldsR P ops S oi v a w →
      wpT P md ops S ts Q fuel (listed.setIfInBounds i true) (a.put oi.dst v) w → wpT P md ops S ts Q (fuel + 1) listed a w := by
  intro fuel
  induction fuel with
  | zero =>
    intro listed a w _ hr hy H
    refine ⟨fun h => (by rw [h] at hr; cases hr), fun w1 hw1 j hj => ?_⟩
    by_cases hji : j = i
    · subst hji
      exact (hy.up (Kept.of_ext hw1)).wpOp hi fun w2 hw2 => ⟨fun _ => Kept.of_ext hw2, H.up (hw1.trans hw2)⟩
    · have := ready_mono hj hji
      rw [H.1] at this
      cases this
  | succ fuel ih =>
    intro listed a w hfree hr hy H
    refine ⟨fun h => (by rw [h] at hr; cases hr), fun w1 hw1 j hj => ?_⟩
    by_cases hji : j = i
    · subst hji
      exact (hy.up (Kept.of_ext hw1)).wpOp hi fun w2 hw2 => ⟨fun _ => Kept.of_ext hw2, H.up (hw1.trans hw2)⟩
    · have h1 := H.2 w1 hw1 j (ready_mono hj hji)
      obtain ⟨hjun, oj, hoj, hall⟩ := mem_ready.1 hj
      have hnot : ∀ e ∈ oj.after, Region.binds md e = true → e.on ≠ i := fun e he hb heq => by
        have h1 := hall e he hb
        have h0 := (mem_ready.1 hr).1
        rw [heq] at h1
        rcases Nat.lt_or_ge i listed.size with h' | h'
        · simp [h'] at h0 h1
          rw [h0] at h1
          cases h1
        · simp [Array.getElem?_eq_none h'] at h1
      have hjt : j ∉ ts := fun hm => by
        obtain ⟨e, he, hb, heq⟩ := hts j oj hoj hm
        exact hnot e he hb heq
      have h2 := wpOp_swap hoj (hfree j oj hoj hji hjun hnot) (fun cs b => hsel i oi cs b hi) (fun cs b => hsel j oj cs b hoj) hQ h1
      have hfree' : ∀ k ok, ops[k]? = some ok → k ≠ i → (listed.setIfInBounds j true).getD k true = false →
          (∀ e ∈ ok.after, Region.binds md e = true → e.on ≠ i) → oi.apart ops ok = true := fun k ok hk hki hun hno => by
        refine hfree k ok hk hki ?_ hno
        by_cases hjk : j = k
        · subst hjk
          exact hjun
        · rw [getD_set_ne true hjk] at hun
          exact hun
      refine wpOp_mono (fun a' w' h3 => ⟨fun _ => h3.2.1 hjt, ih (listed.setIfInBounds j true) a' w' hfree' (ready_mono hr (Ne.symm hji)) ?_ ?_⟩) h2
      · exact (hy.up ((Kept.of_ext hw1).trans (h3.2.1 hjt))).same h3.1.1 h3.1.2
      · rw [Array.setIfInBounds_comm _ _ hji]
        exact h3.2.2

/-- Take operation number i next, whose value is the same in every later world: 'apply Exists.intro; apply And.intro' behind it. -/
theorem wpT_next (i : Nat) (d : Option Tmp) (ht : tailAll md ops ts i = true) {oi : Oper} {fuel : Nat} {listed : Array Bool} {a : Act} {w : World} (hi : ops[i]? = some oi) (hd : oi.dst = d)
    (hs : Region.noSelect ops = true) (hf : Region.free md ops listed i = true) (hr : (Region.ready md ops listed).contains i = true)
    (hQ : ∀ v c a w, Q (.panic c) (a.put d v) w → Q (.panic c) a w)
    (h : ∃ v, YieldsR P ops S oi v a w ∧ wpT P md ops S ts Q fuel (listed.setIfInBounds i true) (a.put d v) w) : wpT P md ops S ts Q (fuel + 1) listed a w := by
  subst hd
  obtain ⟨v, hy, hk⟩ := h
  exact wpT_first hi (Region.noSelect_spec hs) (hQ v) (tailAll_spec ht) fuel listed a w (Region.free_spec hi hf) (by simpa using hr) hy hk

/-- Take operation number i, the only one that is ready, a call: whatever it does. -/
theorem wpT_call (i : Nat) (d : Option Tmp) {oi : Oper} {fuel : Nat} {listed : Array Bool} {a : Act} {w : World} {f : FuncId} {args : Array Value} (hi : ops[i]? = some oi) (hd : oi.dst = d)
    (hr : Region.ready md ops listed = [i]) (hw : Region.wanted oi (yielded ops a.tmps) = true)
    (he : ∀ w', (execOp a.eval oi).run P w' = .ok (.enter f args) w')
    (h : ∀ w', Ext w w' → Calls P f args w' fun e w'' => ∃ v, e = .returned v ∧ Kept S w' w'' ∧ wpT P md ops S ts Q fuel (listed.setIfInBounds i true) (a.put d v) w'') : wpT P md ops S ts Q (fuel + 1) listed a w := by
  subst hd
  refine ⟨fun h0 => (by rw [h0] at hr; cases hr), fun w1 hw1 j hj => ?_⟩
  rw [hr] at hj
  obtain rfl := List.mem_singleton.1 hj
  unfold Go.wpOp
  simp only [hi, hw, if_true]
  refine .inl ?_
  unfold Oper.wp
  rw [he w1]
  refine Calls.mono (h w1 hw1) fun e w'' hx => ?_
  obtain ⟨v, rfl, hk, hn⟩ := hx
  exact ⟨fun _ => hk, hn⟩

/-- Take operation number i, the only one that is ready, whatever it does: by the laws of operations. -/
theorem wpT_only (i : Nat) {oi : Oper} {fuel : Nat} {listed : Array Bool} {a : Act} {w : World} (hi : ops[i]? = some oi)
    (hr : Region.ready md ops listed = [i]) (hw : Region.wanted oi (yielded ops a.tmps) = true)
    (h : ∀ w', Ext w w' → Oper.wp P oi a w' (fun a' w'' => (i ∉ ts → Kept S w' w'') ∧ wpT P md ops S ts Q fuel (listed.setIfInBounds i true) a' w'') Q) : wpT P md ops S ts Q (fuel + 1) listed a w := by
  refine ⟨fun h0 => (by rw [h0] at hr; cases hr), fun w1 hw1 j hj => ?_⟩
  rw [hr] at hj
  obtain rfl := List.mem_singleton.1 hj
  unfold Go.wpOp
  simp only [hi, hw, if_true]
  exact .inl (h w1 hw1)

/-- Take operation number i, the only one that is ready, no call: it answers and may turn the world. -/
theorem wpT_run (i : Nat) (d : Option Tmp) {oi : Oper} {fuel : Nat} {listed : Array Bool} {a : Act} {w : World} (hi : ops[i]? = some oi) (hd : oi.dst = d)
    (hr : Region.ready md ops listed = [i]) (hw : Region.wanted oi (yielded ops a.tmps) = true)
    (h : ∀ w', Ext w w' → ∃ v w'', (execOp a.eval oi).run P w' = .ok (.value v) w'' ∧ Kept S w' w'' ∧ wpT P md ops S ts Q fuel (listed.setIfInBounds i true) (a.put d v) w'') : wpT P md ops S ts Q (fuel + 1) listed a w := by
  subst hd
  refine wpT_only i hi hr hw fun w' hx => ?_
  obtain ⟨v, w'', h1, h2, h3⟩ := h w' hx
  unfold Oper.wp
  rw [h1]
  exact ⟨fun _ => h2, h3⟩

theorem wpT_done {listed : Array Bool} {a : Act} {w : World} (hr : Region.ready md ops listed = []) (h : ∀ w', Ext w w' → Q .normal a w') : ∀ fuel, wpT P md ops S ts Q fuel listed a w
  | 0 => ⟨hr, h⟩
  | _ + 1 => ⟨fun _ => h, by rw [hr]; simp⟩

/-- The beginning. -/
theorem wp_region_tail (S : Nat → Prop) (ts : List Nat) {id : Nat} {a : Act} {w : World} (hm : P.follows .mixedOrders = true)
    (h : wpT P .any ops S ts Q ops.size (Array.replicate ops.size false) a w.drew) : (Code.region id ops true).wp P Q a w :=
  wp_region_any hm (wpAny_of_T _ _ _ _ h)

/-- Take operation number i of ts, the only one that is ready, a store: whatever it turns. -/
theorem wpT_last (i : Nat) {oi : Oper} {fuel : Nat} {listed : Array Bool} {a : Act} {w : World} (hi : ops[i]? = some oi) (hd : oi.dst = none)
    (hr : Region.ready md ops listed = [i]) (hw : Region.wanted oi (yielded ops a.tmps) = true) (hm : i ∈ ts)
    (h : ∀ w', Ext w w' → ∃ w'', (execOp a.eval oi).run P w' = .ok .skip w'' ∧ wpT P md ops S ts Q fuel (listed.setIfInBounds i true) a w'') : wpT P md ops S ts Q (fuel + 1) listed a w := by
  refine wpT_only i hi hr hw fun w' hx => ?_
  obtain ⟨w'', h1, h3⟩ := h w' hx
  unfold Oper.wp
  rw [h1]
  refine ⟨fun hn => absurd hm hn, ?_⟩
  rw [hd]
  exact h3
end
end Go.Proofs.Ythfngmlnmpbcpaa
