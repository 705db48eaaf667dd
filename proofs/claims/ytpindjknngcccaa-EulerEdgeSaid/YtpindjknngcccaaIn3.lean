/- As In2, but one of the first n, e, need not be waited for: it answers the same beside what comes behind. -/
import Derived.Test.YtpindjknngcccaaBase
namespace Go.Proofs.Ytpindjknngcccaa
open Go.RowKit

section
variable {P : Program} {ops : Array Oper} {Q : Exit → Act → World → Prop} {md : Region.Mode}
def tailE (md : Region.Mode) (ops : Array Oper) (n e : Nat) : Bool := (List.range ops.size).all fun k => decide (k < n) || match ops[k]? with | some o => (List.range n).all fun j => j == e || (depsOf md o).contains j | none => true
theorem tailE_spec {n e k : Nat} {o : Oper} (h : tailE md ops n e = true) (hk : n ≤ k) (ho : ops[k]? = some o) : ∀ j, j < n → j ≠ e → j ∈ depsOf md o := by
  intro j hj hje
  have hks := (Array.getElem?_eq_some_iff.1 ho).1
  have h1 := List.all_eq_true.1 h k (by simp [hks])
  rw [ho] at h1
  have h2 : decide (k < n) = false := decide_eq_false (by omega)
  simp only [h2, Bool.false_or] at h1
  have h3 := List.all_eq_true.1 h1 j (by simp [hj])
  have h4 : (j == e) = false := by simpa using hje
  rw [h4, Bool.false_or] at h3
  simpa using h3
theorem wpAny_in3 (n e : Nat) (S : Nat → Prop) {oe : Oper} (Γ : Nat → Value → World → Prop) (G : World → Prop) (a0 : Act) (hΓ : ∀ i v w w', Γ i v w → Ext w w' → Γ i v w') (hG : ∀ w w', G w → Ext w w' → G w')
    (hd : distinctB ops = true) (hr : risingB md ops = true) (hn : n ≤ ops.size) (ht : tailE md ops n e = true) (hen : e < n) (hoe : ops[e]? = some oe) (hsel : Region.noSelect ops = true)
    (hfr : Region.free md ops ((upTo n ops.size).setIfInBounds e false) e = true) (hrd : (Region.ready md ops ((upTo n ops.size).setIfInBounds e false)).contains e = true)
    (hQ : ∀ v c a w, Q (.panic c) (a.put oe.dst v) w → Q (.panic c) a w) (hstep : ∀ i, i < n → StepOk P md ops Γ G a0 i)
    (hone_ : ∀ x w, G w → (∀ i, i < n → i ≠ e → Γ i (x i) w) → ∃ v, YieldsR P ops S oe v (putAll x (dsts ops) 0 a0) w ∧ Γ e v w)
    (hend : ∀ x w, G w → (∀ i, i < n → Γ i (x i) w) → wpR P md ops S Q (ops.size - n) (upTo n ops.size) (putAll x (dsts ops) 0 a0) w) :
    ∀ (fuel : Nat) (listed : Array Bool) (x : Nat → Value) (w : World), listed.size = ops.size → (∀ k, n ≤ k → k < ops.size → listed.getD k false = false) → (List.range ops.size).countP (fun j => listed.getD j false) + fuel = ops.size →
      G w → (∀ i, i < n → listed.getD i false = true → Γ i (x i) w) → wpAny P md ops Q fuel listed (putAll x (dsts ops) 0 a0) w := by
  have hfree : ∀ (listed : Array Bool), listed.size = ops.size → (¬ ∀ i, i < n → listed.getD i false = true) → ∃ i, i < n ∧ i ∈ Region.ready md ops listed := by
    intro listed hs hno
    by_cases hex : ∃ i, i < n ∧ i ∈ Region.ready md ops listed
    · exact hex
    · exfalso
      refine hno fun i => ?_
      induction i using Nat.strongRecOn with
      | _ i ih =>
        intro hi
        by_cases hl : listed.getD i false = true
        · exact hl
        · exfalso
          refine hex ⟨i, hi, ?_⟩
          rw [mem_ready]
          have his : i < ops.size := by omega
          have hil : i < listed.size := by omega
          have h1 : listed.getD i true = false := by
            simp [Array.getD, hil] at hl ⊢
            exact hl
          refine ⟨h1, ops[i], by simp [his], fun e he hb => ?_⟩
          have h2 := List.all_eq_true.1 (show (List.range ops.size).all _ = true from hr) i (by simp [his])
          simp [his] at h2
          have h3 := h2 e.on (by
            unfold depsOf
            exact List.mem_map.2 ⟨e, List.mem_filter.2 ⟨by simpa using he, hb⟩, rfl⟩)
          exact ih e.on h3 (by omega)
  intro fuel
  induction fuel with
  | zero =>
    intro listed x w hs hk hc hg hx
    have hl : ∀ i, i < ops.size → listed.getD i false = true := fun i hi => by
      have h1 : (List.range ops.size).countP (fun j => listed.getD j false) = (List.range ops.size).length := by simpa using hc
      exact List.countP_eq_length.1 h1 i (by simp [hi])
    have hno : n = ops.size := by
      rcases Nat.lt_or_ge n ops.size with h | h
      · have h1 := hl n h
        rw [hk n (Nat.le_refl _) h] at h1
        cases h1
      · omega
    have he := hend x w hg fun i hi => hx i hi (hl i (by omega))
    rw [show ops.size - n = 0 by omega] at he
    have e1 : listed = upTo n ops.size := by
      apply Array.ext
      · rw [upTo_size, hs]
      · intro j h1 h2
        have h3 := hl j (by omega)
        have h4 := upTo_get n ops.size j (by omega)
        rw [decide_eq_true (by omega)] at h4
        simp [Array.getD, h1] at h3
        simp [Array.getD, h2] at h4
        rw [h3, h4]
    rw [e1]
    exact wpAny_of_R _ _ _ _ he
  | succ fuel ih =>
    intro listed x w hs hk hc hg hx
    by_cases hall : ∀ i, i < n → listed.getD i false = true
    · have he := hend x w hg fun i hi => hx i hi (hall i hi)
      have e1 : listed = upTo n ops.size := by
        apply Array.ext
        · rw [upTo_size, hs]
        · intro j h1 h2
          have h4 := upTo_get n ops.size j (by omega)
          simp [Array.getD, h2] at h4
          by_cases hj : j < n
          · have h3 := hall j hj
            simp [Array.getD, h1] at h3
            rw [h3, h4, decide_eq_true hj]
          · have h3 := hk j (by omega) (by omega)
            simp [Array.getD, h1] at h3
            rw [h3, h4, decide_eq_false hj]
      have e2 : (List.range ops.size).countP (fun j => listed.getD j false) = n := by
        rw [e1]
        have : (List.range ops.size).countP (fun j => (upTo n ops.size).getD j false) = (List.range ops.size).countP (fun j => decide (j < n)) := by
          apply List.countP_congr
          intro j hj
          rw [upTo_get n ops.size j (by simpa using hj)]
        rw [this, countP_lt]
        omega
      rw [show ops.size - n = fuel + 1 by omega] at he
      rw [e1]
      exact wpAny_of_R _ _ _ _ he
    · by_cases hall2 : ∀ i, i < n → i ≠ e → listed.getD i false = true
      · have hef : listed.getD e false = false := by
          cases hb : listed.getD e false with
          | false => rfl
          | true =>
            refine absurd (fun i hi => ?_) hall
            by_cases hie : i = e
            · rw [hie]; exact hb
            · exact hall2 i hi hie
        have e1 : listed.setIfInBounds e true = upTo n ops.size := by
          apply Array.ext
          · rw [upTo_size, Array.size_setIfInBounds, hs]
          · intro j h1 h2
            have hjl : j < listed.size := by simpa using h1
            have h4 := upTo_get n ops.size j (by rw [← hs]; exact hjl)
            simp [Array.getD, h2] at h4
            rw [Array.getElem_setIfInBounds (by simpa using h1)]
            by_cases hje : e = j
            · subst hje
              rw [if_pos rfl, h4, decide_eq_true hen]
            · rw [if_neg hje]
              by_cases hj : j < n
              · have h3 := hall2 j hj (Ne.symm hje)
                simp [Array.getD, hjl] at h3
                rw [h3, h4, decide_eq_true hj]
              · have h3 := hk j (by omega) (by omega)
                simp [Array.getD, hjl] at h3
                rw [h3, h4, decide_eq_false hj]
        have e3 : listed = (upTo n ops.size).setIfInBounds e false := by
          rw [← e1, Array.setIfInBounds_setIfInBounds]
          apply Array.ext
          · simp
          · intro j h1 h2
            rw [Array.getElem_setIfInBounds (by simpa using h2)]
            by_cases hje : e = j
            · subst hje
              rw [if_pos rfl]
              simp [Array.getD, h1] at hef
              exact hef
            · rw [if_neg hje]
        have e2 : (List.range ops.size).countP (fun j => listed.getD j false) + 1 = n := by
          have h1 : (List.range ops.size).countP (fun j => (upTo n ops.size).getD j false) = (List.range ops.size).countP (fun j => decide (j < n)) := by
            apply List.countP_congr
            intro j hj
            rw [upTo_get n ops.size j (by simpa using hj)]
          have hel : e < listed.size := by omega
          have hone := countP_one (fun j => listed.getD j false) (fun j => (listed.setIfInBounds e true).getD j false) e hef (by simp [Array.getD, hel]) (fun j hj => getD_set_ne false (Ne.symm hj)) ops.size
          rw [e1, h1, countP_lt, if_pos (by omega)] at hone
          omega
        obtain ⟨v, hy, hv⟩ := hone_ x w hg fun i hi hie => hx i hi (hall2 i hi hie)
        have hds : (dsts ops)[e]? = some oe.dst := by
          unfold dsts
          rw [List.getElem?_map, Array.getElem?_toList, hoe]
          rfl
        have hput : (putAll x (dsts ops) 0 a0).put oe.dst v = putAll (upd x e v) (dsts ops) 0 a0 :=
          putAll_set x e v (dsts ops) 0 a0 oe.dst (Nat.zero_le _) (by simpa using hds) (fun j e2 hj hne t ht he => by
            rw [Nat.sub_zero] at hne
            rw [ht] at hds
            rw [he] at hj
            exact hne (distinct_spec hd hj hds))
        have he := hend (upd x e v) w hg fun i hi => by
          by_cases hie : i = e
          · subst hie
            simpa [upd] using hv
          · rw [show upd x e v i = x i from if_neg hie]
            exact hx i hi (hall2 i hi hie)
        rw [show ops.size - n = fuel by omega, ← hput, ← e1] at he
        refine wpAny_of_R _ _ _ _ (wpR_next e oe.dst hoe rfl hsel ?_ ?_ hQ ⟨v, hy, he⟩)
        · rw [e3]; exact hfr
        · rw [e3]; exact hrd
      obtain ⟨i0, hi0, hi0r⟩ := hfree listed hs hall
      refine ⟨fun h0 => (by rw [h0] at hi0r; cases hi0r), fun i hi => ?_⟩
      obtain ⟨h1, o, ho, hdep⟩ := mem_ready.1 hi
      have his : i < ops.size := (Array.getElem?_eq_some_iff.1 ho).1
      have hil : i < listed.size := by omega
      have hin : i < n := by
        rcases Nat.lt_or_ge i n with h | h
        · exact h
        · exfalso
          refine hall2 fun j hj hje => ?_
          have h2 := tailE_spec ht h ho j hj hje
          unfold depsOf at h2
          obtain ⟨e, he, rfl⟩ := List.mem_map.1 h2
          obtain ⟨he1, he2⟩ := List.mem_filter.1 he
          exact hdep e (by simpa using he1) he2
      have hds : (dsts ops)[i]? = some o.dst := by
        unfold dsts
        rw [List.getElem?_map, Array.getElem?_toList, ho]
        rfl
      have hput : ∀ v, (putAll x (dsts ops) 0 a0).put o.dst v = putAll (upd x i v) (dsts ops) 0 a0 := fun v =>
        putAll_set x i v (dsts ops) 0 a0 o.dst (Nat.zero_le _) (by simpa using hds) (fun j e hj hne t ht he => by
          rw [Nat.sub_zero] at hne
          rw [ht] at hds
          rw [he] at hj
          exact hne (distinct_spec hd hj hds))
      have hnext : ∀ v w', Ext w w' → Γ i v w' → wpAny P md ops Q fuel (listed.setIfInBounds i true) (putAll (upd x i v) (dsts ops) 0 a0) w' := fun v w' hw hv => by
        refine ih _ _ _ (by simpa using hs) (fun k h1 h2 => ?_) ?_ (hG _ _ hg hw) fun j hj1 hj => ?_
        · rw [getD_set_ne false (by omega)]
          exact hk k h1 h2
        · have hone := countP_one (fun j => listed.getD j false) (fun j => (listed.setIfInBounds i true).getD j false) i (by simp [Array.getD, hil] at h1 ⊢; exact h1) (by simp [Array.getD, hil]) (fun j hj => getD_set_ne false (Ne.symm hj)) ops.size
          rw [hone, if_pos his]
          omega
        · by_cases e : j = i
          · subst e
            simpa [upd] using hv
          · rw [getD_set_ne false (Ne.symm e)] at hj
            rw [show upd x i v j = x j from if_neg e]
            exact hΓ _ _ _ _ (hx j hj1 hj) hw
      have hok := hstep i hin o ho x w hg (fun j hj => by
        have hji : j < i := by
          have h2 := List.all_eq_true.1 (show (List.range ops.size).all _ = true from hr) i (by simp [his])
          rw [ho] at h2
          simpa using List.all_eq_true.1 h2 j hj
        unfold depsOf at hj
        obtain ⟨e, he, rfl⟩ := List.mem_map.1 hj
        obtain ⟨he1, he2⟩ := List.mem_filter.1 he
        exact hx _ (by omega) (hdep e (by simpa using he1) he2))
      unfold wpOp
      simp only [ho]
      rcases hok with ⟨hw, hout⟩ | ⟨hw, hu⟩
      · simp only [hw, if_true]
        exact .inl (hout.wp fun v w' hx1 hv => by rw [hput]; exact hnext v w' hx1 hv)
      · simp only [hw, Bool.false_eq_true, if_false]
        rw [hput]
        exact hnext undef w (Ext.refl w) hu

theorem wp_region_in3 (n e : Nat) (S : Nat → Prop) {id : Nat} {a0 : Act} {w : World} {oe : Oper} (Γ : Nat → Value → World → Prop) (G : World → Prop) (hm : P.follows .mixedOrders = true)
    (hd : distinctB ops = true) (hr : risingB .any ops = true) (hn : decide (n ≤ ops.size) = true) (ht : tailE .any ops n e = true) (hen : decide (e < n) = true) (hoe : ops[e]? = some oe) (hsel : Region.noSelect ops = true)
    (hfr : Region.free .any ops ((upTo n ops.size).setIfInBounds e false) e = true) (hrd : (Region.ready .any ops ((upTo n ops.size).setIfInBounds e false)).contains e = true)
    (hQ : ∀ v c a w, Q (.panic c) (a.put oe.dst v) w → Q (.panic c) a w)
    (hΓ : ∀ i v w w', Γ i v w → Ext w w' → Γ i v w') (hG : ∀ w w', G w → Ext w w' → G w') (hg : G w.drew)
    (hstep : ∀ i, i < n → StepOk P .any ops Γ G a0 i)
    (hone_ : ∀ x w, G w → (∀ i, i < n → i ≠ e → Γ i (x i) w) → ∃ v, YieldsR P ops S oe v (putAll x (dsts ops) 0 a0) w ∧ Γ e v w)
    (hend : ∀ x w, G w → (∀ i, i < n → Γ i (x i) w) → wpR P .any ops S Q (ops.size - n) (upTo n ops.size) (putAll x (dsts ops) 0 a0) w) : (Code.region id ops true).wp P Q a0 w := by
  obtain ⟨x, hx⟩ := putAll_self (dsts ops) 0 a0
  have hz : ∀ k, (Array.replicate ops.size false).getD k false = false := fun k => by
    by_cases h : k < ops.size <;> simp [Array.getD, h]
  have h := wpAny_in3 (P := P) (Q := Q) (md := .any) n e S Γ G a0 hΓ hG hd hr (of_decide_eq_true hn) ht (of_decide_eq_true hen) hoe hsel hfr hrd hQ hstep hone_ hend ops.size (Array.replicate ops.size false) x w.drew (by simp) (fun k _ _ => hz k) (by
    have : (List.range ops.size).countP (fun j => (Array.replicate ops.size false).getD j false) = 0 := by
      rw [List.countP_eq_zero]
      intro j hj
      rw [hz j]
      simp
    omega) hg (fun i _ hi => by rw [hz i] at hi; cases hi)
  rw [hx] at h
  exact wp_region_any hm h
end
end Go.Proofs.Ytpindjknngcccaa
