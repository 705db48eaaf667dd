/- A region that draws its order, by an invariant: each operation's value meets a predicate that stays true while memory grows; whatever the order, all meet theirs at the end. -/
import Derived.Test.YtedihfggijcciaaCalm
namespace Go.Proofs.Ytedihfggijcciaa
open Go.RowKit

def putAll (x : Nat → Value) : List (Option Tmp) → Nat → Act → Act
  | [], _, a => a
  | d :: ds, k, a => putAll x ds (k + 1) (a.put d (x k))

def upd (x : Nat → Value) (i : Nat) (v : Value) : Nat → Value := fun j => if j = i then v else x j

theorem put_same (a : Act) (d : Option Tmp) (u v : Value) : (a.put d u).put d v = a.put d v := by
  cases d with
  | none => rfl
  | some d => simp [Act.put]

theorem putAll_put (x : Nat → Value) (v : Value) : ∀ (ds : List (Option Tmp)) (k : Nat) (a : Act) (d : Option Tmp), (∀ e ∈ ds, ∀ t, d = some t → e ≠ some t) → (putAll x ds k a).put d v = putAll x ds k (a.put d v)
  | [], _, _, _, _ => rfl
  | e :: ds, k, a, d, h => by
    simp only [putAll]
    rw [putAll_put x v ds (k + 1) _ d (fun e' he' => h e' (List.mem_cons_of_mem _ he'))]
    congr 1
    exact Act.put_comm a (x := e) (y := d) _ _ (fun t he hd => h e (List.mem_cons_self ..) t hd he)

theorem putAll_upd (x : Nat → Value) (i : Nat) (v : Value) : ∀ (ds : List (Option Tmp)) (k : Nat) (a : Act), i < k → putAll (upd x i v) ds k a = putAll x ds k a
  | [], _, _, _ => rfl
  | e :: ds, k, a, h => by
    simp only [putAll]
    rw [show upd x i v k = x k from if_neg (by omega)]
    exact putAll_upd x i v ds (k + 1) _ (by omega)

/-- Writing operation i's temporary is turning value i. -/
theorem putAll_set (x : Nat → Value) (i : Nat) (v : Value) : ∀ (ds : List (Option Tmp)) (k : Nat) (a : Act) (d : Option Tmp), k ≤ i → ds[i - k]? = some d →
    (∀ j e, ds[j]? = some e → j ≠ i - k → ∀ t, d = some t → e ≠ some t) → (putAll x ds k a).put d v = putAll (upd x i v) ds k a
  | [], _, _, _, _, hd, _ => by simp at hd
  | e :: ds, k, a, d, hk, hd, h => by
    simp only [putAll]
    rcases Nat.eq_or_lt_of_le hk with rfl | hlt
    · rw [Nat.sub_self] at hd h
      simp at hd
      subst hd
      rw [putAll_put x v ds _ _ e (fun e' he' => by
        obtain ⟨j, hj⟩ := List.getElem?_of_mem he'
        exact h (j + 1) e' (by simpa using hj) (by omega)), put_same, putAll_upd x k v ds (k + 1) _ (by omega)]
      rw [show upd x k v k = v from if_pos rfl]
    · have e1 : i - k = (i - (k + 1)) + 1 := by omega
      rw [e1] at hd
      rw [putAll_set x i v ds (k + 1) _ d (by omega) (by simpa using hd) (fun j e' hj hne => h (j + 1) e' (by simpa using hj) (by omega))]
      rw [show upd x i v k = x k from if_neg (by omega)]

theorem putAll_self : ∀ (ds : List (Option Tmp)) (k : Nat) (a : Act), ∃ x, putAll x ds k a = a
  | [], _, a => ⟨fun _ => undef, rfl⟩
  | d :: ds, k, a => by
    obtain ⟨x, hx⟩ := putAll_self ds (k + 1) a
    let u := match d with | some t => a.tmps.getD t undef | none => undef
    have hu : a.put d u = a := by
      cases d with
      | none => rfl
      | some t =>
        simp only [Act.put, u]
        congr 1
        apply Array.ext
        · simp
        · intro j h1 h2
          rw [Array.getElem_setIfInBounds]
          split
          · rename_i e
            subst e
            simp [Array.getD, h2]
          · rfl
    refine ⟨upd x k u, ?_⟩
    simp only [putAll]
    rw [show upd x k u k = u from if_pos rfl, hu, putAll_upd x k u ds (k + 1) a (by omega), hx]

theorem countP_one (f g : Nat → Bool) (i : Nat) (hf : f i = false) (hg : g i = true) (h : ∀ j, j ≠ i → g j = f j) : ∀ n, (List.range n).countP g = (List.range n).countP f + if i < n then 1 else 0
  | 0 => by simp
  | n + 1 => by
    rw [List.range_succ, List.countP_append, List.countP_append, countP_one f g i hf hg h n]
    simp only [List.countP_singleton]
    by_cases e : n = i
    · subst e
      simp [hf, hg]
    · rw [h n e]
      by_cases hi : i < n
      · simp [hi, show i < n + 1 by omega]
        omega
      · simp [hi, show ¬ i < n + 1 by omega]

section
variable {P : Program} {ops : Array Oper} {Q : Exit → Act → World → Prop} {md : Region.Mode}

def dsts (ops : Array Oper) : List (Option Tmp) := ops.toList.map (·.dst)
def depsOf (md : Region.Mode) (o : Oper) : List Nat := (o.after.toList.filter (Region.binds md)).map (·.on)

/-- What an operation comes to: a value that meets T, and a world that has only grown. -/
def OutT (P : Program) (T : Value → World → Prop) (w : World) : Result Next → Prop
  | .ok (.value u) w' => Ext w w' ∧ T u w'
  | .ok (.enter f args) w' => Calls P f args w' fun e w'' => ∃ v, e = .returned v ∧ Ext w w'' ∧ T v w''
  | _ => False

/-- Operation i does its part, in every state in which those that it waits for have done theirs. -/
def StepOk (P : Program) (md : Region.Mode) (ops : Array Oper) (Γ : Nat → Value → World → Prop) (G : World → Prop) (a0 : Act) (i : Nat) : Prop :=
  ∀ (o : Oper), ops[i]? = some o → ∀ (x : Nat → Value) (w : World), G w → (∀ j ∈ depsOf md o, Γ j (x j) w) →
    (Region.wanted o (yielded ops (putAll x (dsts ops) 0 a0).tmps) = true ∧ OutT P (Γ i) w ((execOp (putAll x (dsts ops) 0 a0).eval o).run P w)) ∨
    (Region.wanted o (yielded ops (putAll x (dsts ops) 0 a0).tmps) = false ∧ Γ i undef w)

def distinctB (ops : Array Oper) : Bool := ((ops.toList.map (·.dst)).filterMap id).Nodup
def risingB (md : Region.Mode) (ops : Array Oper) : Bool := (List.range ops.size).all fun i => match ops[i]? with | some o => (depsOf md o).all (· < i) | none => true

theorem OutT.wp {o : Oper} {T : Value → World → Prop} {a : Act} {w : World} {K : Act → World → Prop} (h : OutT P T w ((execOp a.eval o).run P w)) (hK : ∀ v w', Ext w w' → T v w' → K (a.put o.dst v) w') : o.wp P a w K Q := by
  unfold Oper.wp
  generalize (execOp a.eval o).run P w = r at *
  cases r with
  | ok n w' =>
    cases n with
    | value u => exact hK _ _ h.1 h.2
    | enter f args =>
      refine Calls.mono h fun e w'' he => ?_
      obtain ⟨v, rfl, h1, h2⟩ := he
      exact hK _ _ h1 h2
    | _ => exact h.elim
  | halt x w' => exact h.elim

theorem distinct_spec (h : distinctB ops = true) {i j : Nat} {t : Tmp} (hi : (dsts ops)[i]? = some (some t)) (hj : (dsts ops)[j]? = some (some t)) : i = j := by
  unfold distinctB at h
  have hn := of_decide_eq_true h
  clear h
  unfold dsts at hi hj
  generalize ops.toList.map (·.dst) = l at *
  induction l generalizing i j with
  | nil => simp at hi
  | cons d l ih =>
    cases d with
    | none =>
      simp at hn
      cases i with
      | zero => simp at hi
      | succ i =>
        cases j with
        | zero => simp at hj
        | succ j => rw [ih (i := i) (j := j) (by simpa using hi) (by simpa using hj) hn]
    | some d =>
      simp only [List.filterMap_cons, id] at hn
      rw [List.nodup_cons] at hn
      cases i with
      | zero =>
        cases j with
        | zero => rfl
        | succ j =>
          exfalso
          simp at hi hj
          subst hi
          exact hn.1 (List.mem_filterMap.2 ⟨some d, List.mem_of_getElem? hj, rfl⟩)
      | succ i =>
        cases j with
        | zero =>
          exfalso
          simp at hi hj
          subst hj
          exact hn.1 (List.mem_filterMap.2 ⟨some d, List.mem_of_getElem? hi, rfl⟩)
        | succ j => rw [ih (i := i) (j := j) (by simpa using hi) (by simpa using hj) hn.2]

theorem wpAny_inv (Γ : Nat → Value → World → Prop) (G : World → Prop) (a0 : Act) (hΓ : ∀ i v w w', Γ i v w → Ext w w' → Γ i v w') (hG : ∀ w w', G w → Ext w w' → G w')
    (hd : distinctB ops = true) (hr : risingB md ops = true) (hstep : ∀ i, i < ops.size → StepOk P md ops Γ G a0 i)
    (hend : ∀ x w, G w → (∀ i, i < ops.size → Γ i (x i) w) → Q .normal (putAll x (dsts ops) 0 a0) w) :
    ∀ (fuel : Nat) (listed : Array Bool) (x : Nat → Value) (w : World), listed.size = ops.size → (List.range ops.size).countP (fun j => listed.getD j false) + fuel = ops.size →
      G w → (∀ i, listed.getD i false = true → Γ i (x i) w) → wpAny P md ops Q fuel listed (putAll x (dsts ops) 0 a0) w := by
  have hall : ∀ (listed : Array Bool), listed.size = ops.size → Region.ready md ops listed = [] → ∀ i, i < ops.size → listed.getD i false = true := by
    intro listed hs h0 i
    induction i using Nat.strongRecOn with
    | _ i ih =>
      intro hi
      by_cases hl : listed.getD i false = true
      · exact hl
      · exfalso
        have hmem : i ∈ Region.ready md ops listed := by
          rw [mem_ready]
          have hil : i < listed.size := by omega
          have h1 : listed.getD i true = false := by
            simp [Array.getD, hil] at hl ⊢
            exact hl
          refine ⟨h1, ops[i], by simp [hi], fun e he hb => ?_⟩
          unfold risingB at hr
          have h2 := List.all_eq_true.1 hr i (by simp [hi])
          simp [hi] at h2
          have h3 := h2 e.on (by
            unfold depsOf
            exact List.mem_map.2 ⟨e, List.mem_filter.2 ⟨by simpa using he, hb⟩, rfl⟩)
          exact ih e.on h3 (by omega)
        rw [h0] at hmem
        cases hmem
  intro fuel
  induction fuel with
  | zero =>
    intro listed x w hs hc hg hx
    have hl : ∀ i, i < ops.size → listed.getD i false = true := fun i hi => by
      have h1 : (List.range ops.size).countP (fun j => listed.getD j false) = (List.range ops.size).length := by simpa using hc
      exact List.countP_eq_length.1 h1 i (by simp [hi])
    refine ⟨?_, hend x w hg fun i hi => hx i (hl i hi)⟩
    refine List.eq_nil_iff_forall_not_mem.2 fun j hj => ?_
    obtain ⟨h1, o, ho, _⟩ := mem_ready.1 hj
    have hjs : j < ops.size := (Array.getElem?_eq_some_iff.1 ho).1
    have h2 := hl j hjs
    have : j < listed.size := by omega
    simp [Array.getD, this] at h1 h2
    rw [h1] at h2
    cases h2
  | succ fuel ih =>
    intro listed x w hs hc hg hx
    refine ⟨fun h0 => hend x w hg fun i hi => hx i (hall listed hs h0 i hi), fun i hi => ?_⟩
    obtain ⟨h1, o, ho, hdep⟩ := mem_ready.1 hi
    have his : i < ops.size := (Array.getElem?_eq_some_iff.1 ho).1
    have hil : i < listed.size := by omega
    have hds : (dsts ops)[i]? = some o.dst := by
      unfold dsts
      rw [List.getElem?_map, Array.getElem?_toList, ho]
      rfl
    have hput : ∀ v, (putAll x (dsts ops) 0 a0).put o.dst v = putAll (upd x i v) (dsts ops) 0 a0 := fun v =>
      putAll_set x i v (dsts ops) 0 a0 o.dst (Nat.zero_le _) (by simpa using hds) (fun j e hj hne t ht he => by
        rw [Nat.sub_zero] at hne
        rw [ht] at hds
        rw [he] at hj
        exact hne (distinct_spec hd hj hds))
    have hnext : ∀ v w', Ext w w' → Γ i v w' → wpAny P md ops Q fuel (listed.setIfInBounds i true) (putAll (upd x i v) (dsts ops) 0 a0) w' := fun v w' hw hv => by
      refine ih _ _ _ (by simpa using hs) ?_ (hG _ _ hg hw) fun j hj => ?_
      · have hone := countP_one (fun j => listed.getD j false) (fun j => (listed.setIfInBounds i true).getD j false) i (by simp [Array.getD, hil] at h1 ⊢; exact h1) (by simp [Array.getD, hil]) (fun j hj => getD_set_ne false (Ne.symm hj)) ops.size
        rw [hone, if_pos his]
        omega
      · by_cases e : j = i
        · subst e
          simpa [upd] using hv
        · rw [getD_set_ne false (Ne.symm e)] at hj
          rw [show upd x i v j = x j from if_neg e]
          exact hΓ _ _ _ _ (hx j hj) hw
    have hok := hstep i his o ho x w hg (fun j hj => by
      unfold depsOf at hj
      obtain ⟨e, he, rfl⟩ := List.mem_map.1 hj
      obtain ⟨he1, he2⟩ := List.mem_filter.1 he
      exact hx _ (hdep e (by simpa using he1) he2))
    unfold wpOp
    simp only [ho]
    rcases hok with ⟨hw, hout⟩ | ⟨hw, hu⟩
    · simp only [hw, if_true]
      exact .inl (hout.wp fun v w' hx1 hv => by rw [hput]; exact hnext v w' hx1 hv)
    · simp only [hw, Bool.false_eq_true, if_false]
      rw [hput]
      exact hnext undef w (Ext.refl w) hu

/-- The region, by its invariant. -/
theorem wp_region_inv {id : Nat} {a0 : Act} {w : World} (Γ : Nat → Value → World → Prop) (G : World → Prop) (hm : P.follows .mixedOrders = true)
    (hd : distinctB ops = true) (hr : risingB .any ops = true) (hΓ : ∀ i v w w', Γ i v w → Ext w w' → Γ i v w') (hG : ∀ w w', G w → Ext w w' → G w') (hg : G w.drew)
    (hstep : ∀ i, i < ops.size → StepOk P .any ops Γ G a0 i)
    (hend : ∀ x w, G w → (∀ i, i < ops.size → Γ i (x i) w) → Q .normal (putAll x (dsts ops) 0 a0) w) : (Code.region id ops true).wp P Q a0 w := by
  obtain ⟨x, hx⟩ := putAll_self (dsts ops) 0 a0
  have h := wpAny_inv (P := P) (Q := Q) (md := .any) Γ G a0 hΓ hG hd hr hstep hend ops.size (Array.replicate ops.size false) x w.drew (by simp) (by
    have : (List.range ops.size).countP (fun j => (Array.replicate ops.size false).getD j false) = 0 := by
      rw [List.countP_eq_zero]
      intro j hj
      simp [Array.getD]
    omega) hg (fun i hi => by simp [Array.getD] at hi)
  rw [hx] at h
  exact wp_region_any hm h
end
end Go.Proofs.Ytedihfggijcciaa
