/- Several texts in one. -/
import Derived.Test.YtmkflebkifbpfaaGreatZEA
import Derived.Test.YtmkflebkifbpfaaGreatZEE
import Derived.RangeFuncNested
import Derived.RangeFuncBound
import Derived.RangeFuncCalls
import Derived.RangeFuncLeaves
import Derived.Shelf.Abstract
import Derived.Shelf.RegionOpen
import Derived.WalkKit
import Derived.OwnWalkIn
import Derived.TacticsInMore
import Derived.LoopNIn
import Derived.LoopIn
import Derived.Test.YtmkflebkifbpfaaGreatZED
import Derived.Maps.AppendAt
import Derived.Test.YtmkflebkifbpfaaGreatZEC
import Derived.Shelf.SlSortCmp.WholeK
import Derived.Test.YtmkflebkifbpfaaGreatShelf
import Derived.Shelf.SlSortCmp.NoneTotal
/- As In2, but one of the first n, e, need not be waited for: it answers the same beside what comes behind. -/
set_option linter.unusedSimpArgs false
set_option linter.unusedVariables false
namespace Go.Proofs.YtmkflebkifbpfaaGreat
open Go.RowKit
section
variable {P : Program} {ops : Array Oper} {Q : Exit → Act → World → Prop} {md : Region.Mode}
def tailE (md : Region.Mode) (ops : Array Oper) (n e : Nat) : Bool := (List.range ops.size).all fun k => decide (k < n) || match ops[k]? with | some o => (List.range n).all fun j => j == e || (depsOf md o).contains j | none => true
theorem tailE_spec {n e k : Nat} {o : Oper} (h : tailE md ops n e = true) (hk : n ≤ k) (ho : ops[k]? = some o) : ∀ j, j < n → j ≠ e → j ∈ depsOf md o := by
  intro j hj hje
  have hks := (Array.getElem?_eq_some_iff.1 ho).1
  have h1 := List.all_eq_true.1 h k (by simp [hks])
  rw [ho] at h1
  have h2 : decide (k < n) = false := decide_eq_false (by omega)
  simp only [h2, Bool.false_or] at h1
  have h3 := List.all_eq_true.1 h1 j (by simp [hj])
  have h4 : (j == e) = false := by simpa using hje
  rw [h4, Bool.false_or] at h3
  simpa using h3
theorem wpAny_in3 (n e : Nat) (S : Nat → Prop) {oe : Oper} (Γ : Nat → Value → World → Prop) (G : World → Prop) (a0 : Act) (hΓ : ∀ i v w w', Γ i v w → Ext w w' → Γ i v w') (hG : ∀ w w', G w → Ext w w' → G w')
    (hd : distinctB ops = true) (hr : risingB md ops = true) (hn : n ≤ ops.size) (ht : tailE md ops n e = true) (hen : e < n) (hoe : ops[e]? = some oe) (hsel : Region.noSelect ops = true)
    (hfr : Region.free md ops ((upTo n ops.size).setIfInBounds e false) e = true) (hrd : (Region.ready md ops ((upTo n ops.size).setIfInBounds e false)).contains e = true)
    (hQ : ∀ v c a w, Q (.panic c) (a.put oe.dst v) w → Q (.panic c) a w) (hstep : ∀ i, i < n → StepOk P md ops Γ G a0 i)
    (hone_ : ∀ x w, G w → (∀ i, i < n → i ≠ e → Γ i (x i) w) → ∃ v, YieldsR P ops S oe v (putAll x (dsts ops) 0 a0) w ∧ Γ e v w)
    (hend : ∀ x w, G w → (∀ i, i < n → Γ i (x i) w) → wpR P md ops S Q (ops.size - n) (upTo n ops.size) (putAll x (dsts ops) 0 a0) w) :
    ∀ (fuel : Nat) (listed : Array Bool) (x : Nat → Value) (w : World), listed.size = ops.size → (∀ k, n ≤ k → k < ops.size → listed.getD k false = false) → (List.range ops.size).countP (fun j => listed.getD j false) + fuel = ops.size →
      G w → (∀ i, i < n → listed.getD i false = true → Γ i (x i) w) → wpAny P md ops Q fuel listed (putAll x (dsts ops) 0 a0) w := by
  have hfree : ∀ (listed : Array Bool), listed.size = ops.size → (¬ ∀ i, i < n → listed.getD i false = true) → ∃ i, i < n ∧ i ∈ Region.ready md ops listed := by
    intro listed hs hno
    by_cases hex : ∃ i, i < n ∧ i ∈ Region.ready md ops listed
    · exact hex
    · exfalso
      refine hno fun i => ?_
      induction i using Nat.strongRecOn with
      | _ i ih =>
        intro hi
        by_cases hl : listed.getD i false = true
        · exact hl
        · exfalso
          refine hex ⟨i, hi, ?_⟩
          rw [mem_ready]
          have his : i < ops.size := by omega
          have hil : i < listed.size := by omega
          have h1 : listed.getD i true = false := by
            simp [Array.getD, hil] at hl ⊢
            exact hl
          refine ⟨h1, ops[i], by simp [his], fun e he hb => ?_⟩
          have h2 := List.all_eq_true.1 (show (List.range ops.size).all _ = true from hr) i (by simp [his])
          simp [his] at h2
          have h3 := h2 e.on (by
            unfold depsOf
            exact List.mem_map.2 ⟨e, List.mem_filter.2 ⟨by simpa using he, hb⟩, rfl⟩)
          exact ih e.on h3 (by omega)
  intro fuel
  induction fuel with
  | zero =>
    intro listed x w hs hk hc hg hx
    have hl : ∀ i, i < ops.size → listed.getD i false = true := fun i hi => by
      have h1 : (List.range ops.size).countP (fun j => listed.getD j false) = (List.range ops.size).length := by simpa using hc
      exact List.countP_eq_length.1 h1 i (by simp [hi])
    have hno : n = ops.size := by
      rcases Nat.lt_or_ge n ops.size with h | h
      · have h1 := hl n h
        rw [hk n (Nat.le_refl _) h] at h1
        cases h1
      · omega
    have he := hend x w hg fun i hi => hx i hi (hl i (by omega))
    rw [show ops.size - n = 0 by omega] at he
    have e1 : listed = upTo n ops.size := by
      apply Array.ext
      · rw [upTo_size, hs]
      · intro j h1 h2
        have h3 := hl j (by omega)
        have h4 := upTo_get n ops.size j (by omega)
        rw [decide_eq_true (by omega)] at h4
        simp [Array.getD, h1] at h3
        simp [Array.getD, h2] at h4
        rw [h3, h4]
    rw [e1]
    exact wpAny_of_R _ _ _ _ he
  | succ fuel ih =>
    intro listed x w hs hk hc hg hx
    by_cases hall : ∀ i, i < n → listed.getD i false = true
    · have he := hend x w hg fun i hi => hx i hi (hall i hi)
      have e1 : listed = upTo n ops.size := by
        apply Array.ext
        · rw [upTo_size, hs]
        · intro j h1 h2
          have h4 := upTo_get n ops.size j (by omega)
          simp [Array.getD, h2] at h4
          by_cases hj : j < n
          · have h3 := hall j hj
            simp [Array.getD, h1] at h3
            rw [h3, h4, decide_eq_true hj]
          · have h3 := hk j (by omega) (by omega)
            simp [Array.getD, h1] at h3
            rw [h3, h4, decide_eq_false hj]
      have e2 : (List.range ops.size).countP (fun j => listed.getD j false) = n := by
        rw [e1]
        have : (List.range ops.size).countP (fun j => (upTo n ops.size).getD j false) = (List.range ops.size).countP (fun j => decide (j < n)) := by
          apply List.countP_congr
          intro j hj
          rw [upTo_get n ops.size j (by simpa using hj)]
        rw [this, countP_lt]
        omega
      rw [show ops.size - n = fuel + 1 by omega] at he
      rw [e1]
      exact wpAny_of_R _ _ _ _ he
    · by_cases hall2 : ∀ i, i < n → i ≠ e → listed.getD i false = true
      · have hef : listed.getD e false = false := by
          cases hb : listed.getD e false with
          | false => rfl
          | true =>
            refine absurd (fun i hi => ?_) hall
            by_cases hie : i = e
            · rw [hie]; exact hb
            · exact hall2 i hi hie
        have e1 : listed.setIfInBounds e true = upTo n ops.size := by
          apply Array.ext
          · rw [upTo_size, Array.size_setIfInBounds, hs]
          · intro j h1 h2
            have hjl : j < listed.size := by simpa using h1
            have h4 := upTo_get n ops.size j (by rw [← hs]; exact hjl)
            simp [Array.getD, h2] at h4
            rw [Array.getElem_setIfInBounds (by simpa using h1)]
            by_cases hje : e = j
            · subst hje
              rw [if_pos rfl, h4, decide_eq_true hen]
            · rw [if_neg hje]
              by_cases hj : j < n
              · have h3 := hall2 j hj (Ne.symm hje)
                simp [Array.getD, hjl] at h3
                rw [h3, h4, decide_eq_true hj]
              · have h3 := hk j (by omega) (by omega)
                simp [Array.getD, hjl] at h3
                rw [h3, h4, decide_eq_false hj]
        have e3 : listed = (upTo n ops.size).setIfInBounds e false := by
          rw [← e1, Array.setIfInBounds_setIfInBounds]
          apply Array.ext
          · simp
          · intro j h1 h2
            rw [Array.getElem_setIfInBounds (by simpa using h2)]
            by_cases hje : e = j
            · subst hje
              rw [if_pos rfl]
              simp [Array.getD, h1] at hef
              exact hef
            · rw [if_neg hje]
        have e2 : (List.range ops.size).countP (fun j => listed.getD j false) + 1 = n := by
          have h1 : (List.range ops.size).countP (fun j => (upTo n ops.size).getD j false) = (List.range ops.size).countP (fun j => decide (j < n)) := by
            apply List.countP_congr
            intro j hj
            rw [upTo_get n ops.size j (by simpa using hj)]
          have hel : e < listed.size := by omega
          have hone := countP_one (fun j => listed.getD j false) (fun j => (listed.setIfInBounds e true).getD j false) e hef (by simp [Array.getD, hel]) (fun j hj => getD_set_ne false (Ne.symm hj)) ops.size
          rw [e1, h1, countP_lt, if_pos (by omega)] at hone
          omega
        obtain ⟨v, hy, hv⟩ := hone_ x w hg fun i hi hie => hx i hi (hall2 i hi hie)
        have hds : (dsts ops)[e]? = some oe.dst := by
          unfold dsts
          rw [List.getElem?_map, Array.getElem?_toList, hoe]
          rfl
        have hput : (putAll x (dsts ops) 0 a0).put oe.dst v = putAll (upd x e v) (dsts ops) 0 a0 :=
          putAll_set x e v (dsts ops) 0 a0 oe.dst (Nat.zero_le _) (by simpa using hds) (fun j e2 hj hne t ht he => by
            rw [Nat.sub_zero] at hne
            rw [ht] at hds
            rw [he] at hj
            exact hne (distinct_spec hd hj hds))
        have he := hend (upd x e v) w hg fun i hi => by
          by_cases hie : i = e
          · subst hie
            simpa [upd] using hv
          · rw [show upd x e v i = x i from if_neg hie]
            exact hx i hi (hall2 i hi hie)
        rw [show ops.size - n = fuel by omega, ← hput, ← e1] at he
        refine wpAny_of_R _ _ _ _ (wpR_next e oe.dst hoe rfl hsel ?_ ?_ hQ ⟨v, hy, he⟩)
        · rw [e3]; exact hfr
        · rw [e3]; exact hrd
      obtain ⟨i0, hi0, hi0r⟩ := hfree listed hs hall
      refine ⟨fun h0 => (by rw [h0] at hi0r; cases hi0r), fun i hi => ?_⟩
      obtain ⟨h1, o, ho, hdep⟩ := mem_ready.1 hi
      have his : i < ops.size := (Array.getElem?_eq_some_iff.1 ho).1
      have hil : i < listed.size := by omega
      have hin : i < n := by
        rcases Nat.lt_or_ge i n with h | h
        · exact h
        · exfalso
          refine hall2 fun j hj hje => ?_
          have h2 := tailE_spec ht h ho j hj hje
          unfold depsOf at h2
          obtain ⟨e, he, rfl⟩ := List.mem_map.1 h2
          obtain ⟨he1, he2⟩ := List.mem_filter.1 he
          exact hdep e (by simpa using he1) he2
      have hds : (dsts ops)[i]? = some o.dst := by
        unfold dsts
        rw [List.getElem?_map, Array.getElem?_toList, ho]
        rfl
      have hput : ∀ v, (putAll x (dsts ops) 0 a0).put o.dst v = putAll (upd x i v) (dsts ops) 0 a0 := fun v =>
        putAll_set x i v (dsts ops) 0 a0 o.dst (Nat.zero_le _) (by simpa using hds) (fun j e hj hne t ht he => by
          rw [Nat.sub_zero] at hne
          rw [ht] at hds
          rw [he] at hj
          exact hne (distinct_spec hd hj hds))
      have hnext : ∀ v w', Ext w w' → Γ i v w' → wpAny P md ops Q fuel (listed.setIfInBounds i true) (putAll (upd x i v) (dsts ops) 0 a0) w' := fun v w' hw hv => by
        refine ih _ _ _ (by simpa using hs) (fun k h1 h2 => ?_) ?_ (hG _ _ hg hw) fun j hj1 hj => ?_
        · rw [getD_set_ne false (by omega)]
          exact hk k h1 h2
        · have hone := countP_one (fun j => listed.getD j false) (fun j => (listed.setIfInBounds i true).getD j false) i (by simp [Array.getD, hil] at h1 ⊢; exact h1) (by simp [Array.getD, hil]) (fun j hj => getD_set_ne false (Ne.symm hj)) ops.size
          rw [hone, if_pos his]
          omega
        · by_cases e : j = i
          · subst e
            simpa [upd] using hv
          · rw [getD_set_ne false (Ne.symm e)] at hj
            rw [show upd x i v j = x j from if_neg e]
            exact hΓ _ _ _ _ (hx j hj1 hj) hw
      have hok := hstep i hin o ho x w hg (fun j hj => by
        have hji : j < i := by
          have h2 := List.all_eq_true.1 (show (List.range ops.size).all _ = true from hr) i (by simp [his])
          rw [ho] at h2
          simpa using List.all_eq_true.1 h2 j hj
        unfold depsOf at hj
        obtain ⟨e, he, rfl⟩ := List.mem_map.1 hj
        obtain ⟨he1, he2⟩ := List.mem_filter.1 he
        exact hx _ (by omega) (hdep e (by simpa using he1) he2))
      unfold wpOp
      simp only [ho]
      rcases hok with ⟨hw, hout⟩ | ⟨hw, hu⟩
      · simp only [hw, if_true]
        exact .inl (hout.wp fun v w' hx1 hv => by rw [hput]; exact hnext v w' hx1 hv)
      · simp only [hw, Bool.false_eq_true, if_false]
        rw [hput]
        exact hnext undef w (Ext.refl w) hu
theorem wp_region_in3 (n e : Nat) (S : Nat → Prop) {id : Nat} {a0 : Act} {w : World} {oe : Oper} (Γ : Nat → Value → World → Prop) (G : World → Prop) (hm : P.follows .mixedOrders = true)
    (hd : distinctB ops = true) (hr : risingB .any ops = true) (hn : decide (n ≤ ops.size) = true) (ht : tailE .any ops n e = true) (hen : decide (e < n) = true) (hoe : ops[e]? = some oe) (hsel : Region.noSelect ops = true)
    (hfr : Region.free .any ops ((upTo n ops.size).setIfInBounds e false) e = true) (hrd : (Region.ready .any ops ((upTo n ops.size).setIfInBounds e false)).contains e = true)
    (hQ : ∀ v c a w, Q (.panic c) (a.put oe.dst v) w → Q (.panic c) a w)
    (hΓ : ∀ i v w w', Γ i v w → Ext w w' → Γ i v w') (hG : ∀ w w', G w → Ext w w' → G w') (hg : G w.drew)
    (hstep : ∀ i, i < n → StepOk P .any ops Γ G a0 i)
    (hone_ : ∀ x w, G w → (∀ i, i < n → i ≠ e → Γ i (x i) w) → ∃ v, YieldsR P ops S oe v (putAll x (dsts ops) 0 a0) w ∧ Γ e v w)
    (hend : ∀ x w, G w → (∀ i, i < n → Γ i (x i) w) → wpR P .any ops S Q (ops.size - n) (upTo n ops.size) (putAll x (dsts ops) 0 a0) w) : (Code.region id ops true).wp P Q a0 w := by
  obtain ⟨x, hx⟩ := putAll_self (dsts ops) 0 a0
  have hz : ∀ k, (Array.replicate ops.size false).getD k false = false := fun k => by
    by_cases h : k < ops.size <;> simp [Array.getD, h]
  have h := wpAny_in3 (P := P) (Q := Q) (md := .any) n e S Γ G a0 hΓ hG hd hr (of_decide_eq_true hn) ht (of_decide_eq_true hen) hoe hsel hfr hrd hQ hstep hone_ hend ops.size (Array.replicate ops.size false) x w.drew (by simp) (fun k _ _ => hz k) (by
    have : (List.range ops.size).countP (fun j => (Array.replicate ops.size false).getD j false) = 0 := by
      rw [List.countP_eq_zero]
      intro j hj
      rw [hz j]
      simp
    omega) hg (fun i _ hi => by rw [hz i] at hi; cases hi)
  rw [hx] at h
  exact wp_region_any hm h
end
end Go.Proofs.YtmkflebkifbpfaaGreat
/- What the operations of a drawn region come to, as a list; one of them makes a new variable. -/
namespace Go.Proofs.YtmkflebkifbpfaaGreat
open Go.RowKit
def gamL (vs : List (Option Value)) (ai B : Nat) (T : TypeId) (cs : List Value) (i : Nat) (v : Value) (W : World) : Prop :=
  if i = ai then ∃ g, v = .pointer (some ⟨g, 0, none⟩) ∧ B ≤ g ∧ Whole W g T cs else match vs[i]? with
    | some (some u) => v = u
    | _ => True
theorem gamL_up {vs : List (Option Value)} {ai B : Nat} {T : TypeId} {cs : List Value} (i : Nat) (v : Value) (W W' : World) (h : gamL vs ai B T cs i v W) (hx : Ext W W') : gamL vs ai B T cs i v W' := by
  unfold gamL at h ⊢
  split at h
  · rename_i e
    rw [if_pos e]
    obtain ⟨g, h1, h2, h3⟩ := h
    exact ⟨g, h1, h2, h3.bl hx⟩
  · rename_i e
    rw [if_neg e]
    exact h
end Go.Proofs.YtmkflebkifbpfaaGreat
/- face.round; the iterator that it hands back. -/
namespace Go.Proofs.YtmkflebkifbpfaaGreat
open Go.RowKit
attribute [local go_sem] Oper.semAt_some
/-- Darts that are keys, of a side. -/
def wfS (d : D) : Prop := wfD d ∧ 0 ≤ d.2.2 ∧ d.2.2 ≤ 1
abbrev D2 := { d : D // wfS d }
def othD (d : D) : D := (d.1, d.2.1, 1 - d.2.2)
/-- Round a face, from y on, k darts at most. -/
def trG (g : D → Option D) (x : D) : Nat → D → List D
  | 0, _ => []
  | k + 1, y => y :: (match g (othD y) with | none => [] | some z => if z = x then [] else trG g x k z)
def faceL (g : D → Option D) (N : Nat) (x : D) : List D := if (g x).isSome then trG g x N x else []
theorem wfS.oth {d : D} (h : wfS d) : wfS (othD d) := by
  obtain ⟨⟨h1, h2, h3⟩, h4, h5⟩ := h
  refine ⟨⟨h1, h2, ?_⟩, by show 0 ≤ 1 - d.2.2; omega, by show 1 - d.2.2 ≤ 1; omega⟩
  show (Lit.int .i64 (1 - d.2.2)).wf = true
  have e0 : (1 : Int) - d.2.2 = 0 ∨ (1 : Int) - d.2.2 = 1 := by omega
  rcases e0 with e0 | e0 <;> rw [e0] <;> decide
theorem opV_some {g : D → Option D} {x z : D} (h : g x = some z) : opV g x = some (dV z) := by unfold opV; rw [h]; rfl
theorem opV_none {g : D → Option D} {x : D} (h : g x = none) : opV g x = none := by unfold opV; rw [h]; rfl
theorem zero_dartV (w : World) : (zeroValue 49).run Tryz.prog w = .ok (dV (0, 0, 0)) w := by
  obtain ⟨i, hi, hz⟩ : ∃ i, Tryz.prog.info? 49 = some i ∧ i.zero = some (dV (0, 0, 0)) := by
    have h : (Tryz.prog.info? 49).map (·.zero) = some (some (dV (0, 0, 0))) := by kernel_rfl
    cases h2 : Tryz.prog.info? 49 with
    | none => rw [h2] at h; cases h
    | some i => rw [h2] at h; exact ⟨i, rfl, by simpa using h⟩
  simp [zeroValue, typeInfo, hi, hz]
theorem gb_bel {w w' : World} (B : Nat) (h : Below w.heap.size w w') : w.grownBy w' (some B) := ⟨h.os, h.tape, h.output, h.size, fun k hk _ => h.block k hk⟩
theorem AbI.bel {B : Nat} {J : World → Prop} (h : AbI B J) {w w' : World} (hj : J w) (hb : Below w.heap.size w w') : J w' := h w w' hj (gb_bel B hb)
theorem AbI.row {B : Nat} {J : World → Prop} (h : AbI B J) {w : World} (hj : J w) (cs : Array Value) : J (w.setRow B cs) :=
  h w _ hj (by have hk := kept_row (S := fun i => i = B) (w := w) rfl cs; exact ⟨hk.os, hk.tape, hk.output, hk.size, fun k h1 h2 => hk.block k h1 (fun e => h2 (by rw [e]))⟩)
theorem KpS.whole {K : Nat → Prop} {W W' : World} (h : KpS K W W') {g : Nat} {t : TypeId} {cs : List Value} (hw : Whole W g t cs) (hk : K g) : Whole W' g t cs :=
  hw.at_ (h.same g hw.lt hk)
theorem KpS.mapD {K : Nat → Prop} {W W' : World} (h : KpS K W W') {b n : Nat} {f : D → Option Value} {S : List D} (hw : MapD W b n f S) (hk : K b) : MapD W' b n f S :=
  hw.at_ (h.same b hw.lt hk)
set_option maxRecDepth 100000 in
set_option maxHeartbeats 4000000 in
theorem round_any (b : Nat) (x1 x2 x3 : Int) (w : World) : Calls Tryz.prog 101 #[.map (some b), .agg #[.int .i64 x1, .int .i64 x2, .int .i64 x3]] w fun e w' => e = .returned (.func (.func 106) #[] #[.pointer (some ⟨w.heap.size + 1, 0, none⟩), .pointer (some ⟨w.heap.size, 0, none⟩)]) ∧ w' = (w.alloc (.cells #[.map (some b)] 118)).alloc (.cells #[.int .i64 x1, .int .i64 x2, .int .i64 x3] 49) := by
  go_enter Tryz.func101, Tryz.ntmps101
  go_wp2
  go_ret
  exact ⟨rfl, rfl⟩
set_option maxRecDepth 100000 in
set_option maxHeartbeats 4000000 in
theorem otherF_any (x : D) (h : wfS x) (w : World) : Calls Tryz.prog 107 #[dV x] w fun e w' => e = .returned (dV (othD x)) ∧ Below w.heap.size w w' := by
  obtain ⟨s, n, c⟩ := x
  have h1 : 0 ≤ c := h.2.1
  have h2 : c ≤ 1 := h.2.2
  show Calls Tryz.prog 107 #[.agg #[.int .i64 s, .int .i64 n, .int .i64 c]] w _
  go_enter Tryz.func107, Tryz.ntmps107
  go_wp2
  exact bodyPost_ret (v := .agg #[.int .i64 s, .int .i64 n, .int .i64 (1 - c)]) (by simp [results, Tryz.results107, go_sem]) rfl ⟨rfl, below2 _ _ _⟩
set_option maxRecDepth 100000 in
set_option maxHeartbeats 4000000 in
theorem round_its (bx bn bm q : Nat) (g : D → Option D) (Sk : List D) (x : D) (hx : wfD x) (hxs : (g x).isSome = true → wfS x) (hg : ∀ d e, g d = some e → wfS e) (K : Nat → Prop) (W : World) (hK : K bx ∧ K bn ∧ K bm ∧ K W.heap.size)
    (h1 : Whole W bx 49 [.int .i64 x.1, .int .i64 x.2.1, .int .i64 x.2.2]) (h2 : Whole W bn 118 [.map (some bm)]) (h3 : MapD W bm q (opV g) Sk) (hN : Sk.length ≤ 1000000000000) :
    ItS Tryz.prog 106 #[.pointer (some ⟨bx, 0, none⟩), .pointer (some ⟨bn, 0, none⟩)] (fun y : D2 => #[dV y.1]) K (fun ys => ys.map (·.1) = faceL g Sk.length x) (fun ys => ys.map (·.1) <+: faceL g Sk.length x) Sk.length W := by
  intro l J Jx hJ hJx hY h0
  refine callsIn_wide.2 ?_
  show Calls Tryz.prog 106 #[.func (.yield l) #[] #[], .pointer (some ⟨bx, 0, none⟩), .pointer (some ⟨bn, 0, none⟩)] W _
  obtain ⟨x1, x2, x3⟩ := x
  replace h1 : Whole W bx 49 [.int .i64 x1, .int .i64 x2, .int .i64 x3] := h1
  have hxs' := hxs
  obtain ⟨N, gN⟩ : ∃ z, Sk.length = z := ⟨_, rfl⟩
  have HSk := Lib.hid gN
  rw [gN] at hN hY ⊢
  clear gN
  have HX := Lib.hid h1
  have HN := Lib.hid h2
  have HM := Lib.hid h3
  have HJ := Lib.hid h0
  have HK := Lib.hid hK
  have HY := Lib.hid hY
  have Hg := Lib.hid hg
  have Hxs := Lib.hid hxs
  have HJc := Lib.hid hJ
  have HJxc := Lib.hid hJx
  have Hx := Lib.hid hx
  have c0 := h1.cell (i := 0) rfl
  have c1 := h1.cell (i := 1) rfl
  have c2 := h1.cell (i := 2) rfl
  clear h1 h2 h3 h0 hK hY hg hxs hJ hJx hx hxs'
  go_enter Tryz.func106, Tryz.ntmps106
  go_upto_region 1 with fail
  have HX0 := Lib.hid (HX.out.al (.cells #[.int .i64 x1, .int .i64 x2, .int .i64 x3] 49))
  have HN0 := Lib.hid (HN.out.al (.cells #[.int .i64 x1, .int .i64 x2, .int .i64 x3] 49))
  have HM0 := Lib.hid (HM.out.al (.cells #[.int .i64 x1, .int .i64 x2, .int .i64 x3] 49))
  have HJ0 := Lib.hid ((HJc.out []).bel HJ.out (below1 W (.cells #[.int .i64 x1, .int .i64 x2, .int .i64 x3] 49)))
  have HY0 := Lib.hid (Whole.new_ W 49 [.int .i64 x1, .int .i64 x2, .int .i64 x3])
  have hlx := HX.out.lt
  have hln := HN.out.lt
  have hlm := HM.out.lt
  obtain ⟨b, gb⟩ : ∃ z, W.heap.size = z := ⟨_, rfl⟩
  obtain ⟨W0, gW0⟩ : ∃ z, W.alloc (.cells #[.int .i64 x1, .int .i64 x2, .int .i64 x3] 49) = z := ⟨_, rfl⟩
  rw [gb] at HJc HJxc HK HY HY0 hlx hln hlm
  rw [gW0] at HX0 HN0 HM0 HJ0 HY0
  rw [gW0, gb]
  clear c0 c1 c2 gW0 gb HX HN HM HJ
  have c0 := HX0.out.cell (i := 0) rfl
  have c1 := HX0.out.cell (i := 1) rfl
  have c2 := HX0.out.cell (i := 2) rfl
  have c3 := HN0.out.cell (i := 0) rfl
  by_cases hgx : (g (x1, x2, x3)).isSome = true
  · obtain ⟨z, hz⟩ := Option.isSome_iff_exists.1 hgx
    have Hz := Lib.hid (opV_some hz)
    have Hfl : RowKit.Hid (faceL g N (x1, x2, x3) = trG g (x1, x2, x3) N (x1, x2, x3)) := Lib.hid (by unfold faceL; rw [if_pos hgx])
    have Hs := Lib.hid (Hxs.out hgx)
    clear hgx hz
    obtain ⟨z1, z2, z3⟩ := z
    go_upto_region 2 with (at_lookup; refine wl_mapLook rfl _ _ rfl rfl HM0.out.mapF Tryz.underlying118 (zero_dartV _) (x := (x1, x2, x3)) Hx.out rfl ?_; rw [Hz.out]; simp only [Option.getD_some, Option.getD_none, Option.isSome_some, Option.isSome_none, dV])
    have HX1 := Lib.hid (HX0.out.al (.cells #[.int .i64 z1, .int .i64 z2, .int .i64 z3] 49))
    have HN1 := Lib.hid (HN0.out.al (.cells #[.int .i64 z1, .int .i64 z2, .int .i64 z3] 49))
    have HM1 := Lib.hid (HM0.out.al (.cells #[.int .i64 z1, .int .i64 z2, .int .i64 z3] 49))
    have HY1 := Lib.hid (HY0.out.al (.cells #[.int .i64 z1, .int .i64 z2, .int .i64 z3] 49))
    have HJ1 := Lib.hid ((HJc.out []).bel HJ0.out (below1 W0 (.cells #[.int .i64 z1, .int .i64 z2, .int .i64 z3] 49)))
    clear Hz HX0 HN0 HM0 HJ0 HY0 c0 c1 c2 c3
    obtain ⟨W1, gW1⟩ : ∃ z, W0.alloc (.cells #[.int .i64 z1, .int .i64 z2, .int .i64 z3] 49) = z := ⟨_, rfl⟩
    rw [gW1] at HX1 HN1 HM1 HJ1 HY1 ⊢
    clear gW1
    have c3 := HN1.out.cell (i := 0) rfl
    go_upto_region 3 with fail
    refine wp_region_lit ?_
    refine wl_read (v := ?_) (some 17) rfl (by rfl) ?_ ?_
    rotate_left
    · go_simp; (try with_reducible rfl)
    simp only [Act.put, stA_, st0_, st1_]
    refine wl_dLen rfl _ rfl Tryz.underlying118 rfl HM1.out ?_
    rw [HSk.out]
    simp only [Act.put, stA_, st0_, st1_]
    go_wp2
    clear c3
    go_loopw [5, 19] (fun so si wr => ∃ (j : Nat) (pre : List D2) (y : D), j ≤ N ∧ si = .int .i64 j ∧ so = .bool true ∧ RowKit.Hid (pre.length = j ∧ wfS y ∧ faceL g N (x1, x2, x3) = pre.map (·.1) ++ trG g (x1, x2, x3) (N - j) y) ∧ RowKit.Hid (J pre wr) ∧ RowKit.Hid (Whole wr bx 49 [.int .i64 x1, .int .i64 x2, .int .i64 x3]) ∧ RowKit.Hid (Whole wr bn 118 [.map (some bm)]) ∧ RowKit.Hid (MapD wr bm q (opV g) Sk) ∧ RowKit.Hid (Whole wr b 49 [.int .i64 y.1, .int .i64 y.2.1, .int .i64 y.2.2])) (fun _ si _ => N - (intOf si).toNat)
    case atStart => exact ⟨0, [], (x1, x2, x3), by omega, rfl, rfl, Lib.hid ⟨rfl, Hs.out, Hfl.out⟩, HJ1, HX1, HN1, HM1, HY1⟩
    case round =>
      clear HJ1 HX1 HN1 HM1 HY1 Hfl
      obtain ⟨j, pre, y, hj, rfl, rfl, HF, HJ, HX, HN, HM, HYb⟩ := hrel
      by_cases hjn : j < N
      · obtain ⟨wo, gwo⟩ : ∃ z, wr = z := ⟨_, rfl⟩
        rw [gwo] at HJ HX HN HM HYb ⊢
        clear gwo
        obtain ⟨y1, y2, y3⟩ := y
        have Hys : RowKit.Hid (wfS (y1, y2, y3)) := Lib.hid HF.out.2.1
        have c0 := HYb.out.cell (i := 0) rfl
        have c1 := HYb.out.cell (i := 1) rfl
        have c2 := HYb.out.cell (i := 2) rfl
        have HFt : RowKit.Hid (faceL g N (x1, x2, x3) = pre.map (·.1) ++ trG g (x1, x2, x3) (N - (j + 1) + 1) (y1, y2, y3)) := Lib.hid (by rw [HF.out.2.2]; congr 2; omega)
        have Hpl : RowKit.Hid (pre.length = j) := Lib.hid HF.out.1
        clear HF
        go_upto_region 5 with fail
        obtain ⟨fn, tmps, assign, body, hy, hR⟩ := HY.out pre ⟨(y1, y2, y3), Hys.out⟩ wo HJ.out (by have := Hpl.out; omega) HYb.out.lt
        have HR := Lib.hid hR
        clear hR
        simp only [dV] at hy
        refine (wpIn_wide (n := 0)).1 ?_
        gi_wp2
        refine ⟨rfl, HR.out.mono ?_⟩
        clear c0 c1 c2 hy HR HJ
        rintro e W3 (⟨rfl, hJ3, hk3⟩ | ⟨rfl, hJx3⟩)
        · have HJ3 := Lib.hid hJ3
          have Hk3 := Lib.hid hk3
          clear hJ3 hk3
          gi_wp2
          have HX3 := Lib.hid (Hk3.out.whole HX.out HK.out.1)
          have HN3 := Lib.hid (Hk3.out.whole HN.out HK.out.2.1)
          have HM3 := Lib.hid (Hk3.out.mapD HM.out HK.out.2.2.1)
          have HY3 := Lib.hid (Hk3.out.whole HYb.out HK.out.2.2.2)
          clear HX HN HM HYb Hk3
          by_cases ho : (g (othD (y1, y2, y3))).isSome = true
          · obtain ⟨u, hu⟩ := Option.isSome_iff_exists.1 ho
            have Hus := Lib.hid (Hg.out _ _ hu)
            have Hto : RowKit.Hid (trG g (x1, x2, x3) (N - (j + 1) + 1) (y1, y2, y3) = (y1, y2, y3) :: (if u = (x1, x2, x3) then [] else trG g (x1, x2, x3) (N - (j + 1)) u)) := Lib.hid (by rw [trG, hu])
            have hLK : ∀ w', MapD w' bm q (opV g) Sk → (Instr.lookup 118 (.map (some bm)) (.agg #[.int .i64 y1, .int .i64 y2, .int .i64 (1 - y3)]) true).run Tryz.prog w' = .ok (.tuple #[dV u, .bool true]) w' := fun w' h => by
              have e := h.mapF.look (x := othD (y1, y2, y3)) Tryz.underlying118 (zero_dartV w') Hys.out.oth.1
              rw [opV_some hu] at e
              exact e
            clear ho hu
            obtain ⟨u1, u2, u3⟩ := u
            simp only [dV] at hLK
            have HLK := Lib.hid hLK
            clear hLK
            go_upto_region 6 with fail
            have HLd : RowKit.Hid (∀ W', Ext W3.drew W' → W'.cell? ⟨b, 0, none⟩ = some (.int .i64 y1) ∧ W'.cell? ⟨b, 1, none⟩ = some (.int .i64 y2) ∧ W'.cell? ⟨b, 2, none⟩ = some (.int .i64 y3) ∧ W'.cell? ⟨bn, 0, none⟩ = some (.map (some bm))) :=
              Lib.hid (fun W' h => ⟨(HY3.out.dr.bl h).cell (i := 0) rfl, (HY3.out.dr.bl h).cell (i := 1) rfl, (HY3.out.dr.bl h).cell (i := 2) rfl, (HN3.out.dr.bl h).cell (i := 0) rfl⟩)
            refine wp_region_in3 7 6 (fun i => i = b) (gamL [some (.map (some bm)), some (.agg #[.int .i64 y1, .int .i64 y2, .int .i64 y3]), some (.agg #[.int .i64 y1, .int .i64 y2, .int .i64 (1 - y3)]), some (.tuple #[.agg #[.int .i64 u1, .int .i64 u2, .int .i64 u3], .bool true]), some (.tuple #[.agg #[.int .i64 u1, .int .i64 u2, .int .i64 u3], .bool true]), some (.agg #[.int .i64 u1, .int .i64 u2, .int .i64 u3]), some (.bool true)] 99 0 0 []) (Ext W3.drew) (by kernel_rfl) (by kernel_rfl) (by kernel_rfl) (by kernel_rfl) (by kernel_rfl) (by kernel_rfl) (by simp only [List.getElem?_toArray, List.getElem?_cons_succ, List.getElem?_cons_zero]; exact rfl) (by kernel_rfl) (by kernel_rfl) (by kernel_rfl) ?_ (fun i v w1 w2 h hx => gamL_up i v w1 w2 h hx) (fun _ _ h k => h.trans k) (Ext.refl _) ?_ ?_ ?_
            · exact fun _ _ _ _ h => h
            · intro i hi9
              have hcase : i = 0 ∨ i = 1 ∨ i = 2 ∨ i = 3 ∨ i = 4 ∨ i = 5 ∨ i = 6 := by omega
              rcases hcase with rfl | rfl | rfl | rfl | rfl | rfl | rfl
              · intro o ho x y hg hdep
                simp only [List.getElem?_toArray, List.getElem?_cons_succ, List.getElem?_cons_zero, Option.some.injEq] at ho
                subst ho
                obtain ⟨hl0, hl1, hl2, hl3⟩ := HLd.out _ hg
                simp only [dsts, List.map_cons, List.map_nil, putAll, Act.put, stA_, st0_, st1_]
                refine .inl ⟨by rfl, ?_⟩
                go_simp
                exact ⟨Ext.refl _, rfl⟩
              · intro o ho x y hg hdep
                simp only [List.getElem?_toArray, List.getElem?_cons_succ, List.getElem?_cons_zero, Option.some.injEq] at ho
                subst ho
                obtain ⟨hl0, hl1, hl2, hl3⟩ := HLd.out _ hg
                simp only [dsts, List.map_cons, List.map_nil, putAll, Act.put, stA_, st0_, st1_]
                refine .inl ⟨by rfl, ?_⟩
                go_simp
                exact ⟨Ext.refl _, rfl⟩
              · intro o ho x y hg hdep
                simp only [List.getElem?_toArray, List.getElem?_cons_succ, List.getElem?_cons_zero, Option.some.injEq] at ho
                subst ho
                have d1 : x 1 = .agg #[.int .i64 y1, .int .i64 y2, .int .i64 y3] := hdep 1 (by decide)
                simp only [dsts, List.map_cons, List.map_nil, putAll, Act.put, stA_, st0_, st1_]
                simp only [d1]
                refine .inl ⟨by rfl, outT_call (by go_simp; first | done | exact ⟨rfl, rfl⟩ | with_reducible rfl) ?_⟩
                refine (show Calls Tryz.prog 107 #[.agg #[.int .i64 y1, .int .i64 y2, .int .i64 y3]] y (fun e w'' => e = .returned (.agg #[.int .i64 y1, .int .i64 y2, .int .i64 (1 - y3)]) ∧ Below y.heap.size y w'') from otherF_any (y1, y2, y3) Hys.out y).mono ?_
                rintro e w2 ⟨rfl, hb⟩
                exact ⟨_, rfl, hb, rfl⟩
              · intro o ho x y hg hdep
                simp only [List.getElem?_toArray, List.getElem?_cons_succ, List.getElem?_cons_zero, Option.some.injEq] at ho
                subst ho
                have d0 : x 0 = .map (some bm) := hdep 0 (by decide)
                have d2 : x 2 = .agg #[.int .i64 y1, .int .i64 y2, .int .i64 (1 - y3)] := hdep 2 (by decide)
                simp only [dsts, List.map_cons, List.map_nil, putAll, Act.put, stA_, st0_, st1_]
                simp only [d0, d2]
                refine .inl ⟨by rfl, outT_run (w' := y) (exec_mapLook (b := some bm) (by rfl) (by rfl) (by rfl) (HLK.out y (HM3.out.dr.bl hg))) (Ext.refl _) ?_⟩
                exact rfl
              · intro o ho x y hg hdep
                simp only [List.getElem?_toArray, List.getElem?_cons_succ, List.getElem?_cons_zero, Option.some.injEq] at ho
                subst ho
                have d3 : x 3 = .tuple #[.agg #[.int .i64 u1, .int .i64 u2, .int .i64 u3], .bool true] := hdep 3 (by decide)
                simp only [dsts, List.map_cons, List.map_nil, putAll, Act.put, stA_, st0_, st1_]
                simp only [d3]
                refine .inl ⟨by rfl, ?_⟩
                go_simp
                exact ⟨Ext.refl _, rfl⟩
              · intro o ho x y hg hdep
                simp only [List.getElem?_toArray, List.getElem?_cons_succ, List.getElem?_cons_zero, Option.some.injEq] at ho
                subst ho
                have d4 : x 4 = .tuple #[.agg #[.int .i64 u1, .int .i64 u2, .int .i64 u3], .bool true] := hdep 4 (by decide)
                simp only [dsts, List.map_cons, List.map_nil, putAll, Act.put, stA_, st0_, st1_]
                simp only [d4]
                refine .inl ⟨by rfl, ?_⟩
                go_simp
                exact ⟨Ext.refl _, rfl⟩
              · intro o ho x y hg hdep
                simp only [List.getElem?_toArray, List.getElem?_cons_succ, List.getElem?_cons_zero, Option.some.injEq] at ho
                subst ho
                have d4 : x 4 = .tuple #[.agg #[.int .i64 u1, .int .i64 u2, .int .i64 u3], .bool true] := hdep 4 (by decide)
                simp only [dsts, List.map_cons, List.map_nil, putAll, Act.put, stA_, st0_, st1_]
                simp only [d4]
                refine .inl ⟨by rfl, ?_⟩
                go_simp
                exact ⟨Ext.refl _, rfl⟩
            · intro x y hg hall
              have d4 : x 4 = .tuple #[.agg #[.int .i64 u1, .int .i64 u2, .int .i64 u3], .bool true] := hall 4 (by decide) (by decide)
              simp only [dsts, List.map_cons, List.map_nil, putAll, Act.put, stA_, st0_, st1_]
              simp only [d4]
              refine ⟨.bool true, ?_, rfl⟩
              apply yr_run; rfl; intro w' hw'; go_simp; (try with_reducible rfl)
            intro x y hg hall
            have d0 : x 0 = .map (some bm) := hall 0 (by decide)
            have d1 : x 1 = .agg #[.int .i64 y1, .int .i64 y2, .int .i64 y3] := hall 1 (by decide)
            have d2 : x 2 = .agg #[.int .i64 y1, .int .i64 y2, .int .i64 (1 - y3)] := hall 2 (by decide)
            have d3 : x 3 = .tuple #[.agg #[.int .i64 u1, .int .i64 u2, .int .i64 u3], .bool true] := hall 3 (by decide)
            have d4 : x 4 = .tuple #[.agg #[.int .i64 u1, .int .i64 u2, .int .i64 u3], .bool true] := hall 4 (by decide)
            have d5 : x 5 = .agg #[.int .i64 u1, .int .i64 u2, .int .i64 u3] := hall 5 (by decide)
            have d6 : x 6 = .bool true := hall 6 (by decide)
            simp only [dsts, List.map_cons, List.map_nil, putAll, Act.put, stA_, st0_, st1_]
            simp only [d0, d1, d2, d3, d4, d5, d6]
            clear hall d0 d1 d2 d3 d4 d5 d6
            apply wpR_store 7
            · rfl
            · rfl
            · kernel_rfl
            · rfl
            intro w' hw'
            have HYw := Lib.hid ((HY3.out.dr.bl hg).bl hw')
            have HJw := Lib.hid ((HJc.out _).bel ((HJc.out _).bel HJ3.out (bel_bl (bel_dr (Below.refl _ W3)) hg)) hw')
            refine ⟨w'.setRow b #[.int .i64 u1, .int .i64 u2, .int .i64 u3], store_row_run 49 (.tmp 4) (.tmp 30) rfl b rfl [.int .i64 u1, .int .i64 u2, .int .i64 u3] rfl 49 [.int .i64 y1, .int .i64 y2, .int .i64 y3] HYw.out (by kernel_rfl) rfl (by simp [Value.oneCell']), kept_row (S := fun i => i = b) rfl _, ?_⟩
            have HYs : RowKit.Hid (Whole (w'.setRow b #[.int .i64 u1, .int .i64 u2, .int .i64 u3]) b 49 [.int .i64 u1, .int .i64 u2, .int .i64 u3]) := Lib.hid (Whole.row HYw.out [.int .i64 u1, .int .i64 u2, .int .i64 u3])
            have HXs : RowKit.Hid (Whole (w'.setRow b #[.int .i64 u1, .int .i64 u2, .int .i64 u3]) bx 49 [.int .i64 x1, .int .i64 x2, .int .i64 x3]) := Lib.hid (((HX3.out.dr.bl hg).bl hw').row_far (by omega) _)
            have HNs : RowKit.Hid (Whole (w'.setRow b #[.int .i64 u1, .int .i64 u2, .int .i64 u3]) bn 118 [.map (some bm)]) := Lib.hid (((HN3.out.dr.bl hg).bl hw').row_far (by omega) _)
            have HMs : RowKit.Hid (MapD (w'.setRow b #[.int .i64 u1, .int .i64 u2, .int .i64 u3]) bm q (opV g) Sk) := Lib.hid (((HM3.out.dr.bl hg).bl hw').kept (S' := fun i => i = b) (kept_row (S := fun i => i = b) rfl _) (by omega))
            have HJs := Lib.hid ((HJc.out _).row HJw.out #[.int .i64 u1, .int .i64 u2, .int .i64 u3])
            obtain ⟨V1, gV1⟩ : ∃ z, w'.setRow b #[.int .i64 u1, .int .i64 u2, .int .i64 u3] = z := ⟨_, rfl⟩
            rw [gV1] at HYs HXs HNs HMs HJs ⊢
            clear hw' hg gV1 HYw HJw HX3 HN3 HM3 HY3 HJ3 HLK HLd
            refine opR_ 8 5 (v := ?_) ?_ ?_; rotate_left
            · intro w' hw'; go_simp; (try with_reducible rfl)
            simp only [st0_, st1_]
            refine wpR_done (by kernel_rfl) ?_ _
            intro W8 hw8
            have HX8 := Lib.hid (HXs.out.bl hw8)
            have HN8 := Lib.hid (HNs.out.bl hw8)
            have HM8 := Lib.hid (HMs.out.bl hw8)
            have HY8 := Lib.hid (HYs.out.bl hw8)
            have HJ8 := Lib.hid ((HJc.out _).bel HJs.out hw8)
            clear hw8 HXs HNs HMs HYs HJs
            have c0 := HX8.out.cell (i := 0) rfl
            have c1 := HX8.out.cell (i := 1) rfl
            have c2 := HX8.out.cell (i := 2) rfl
            have e0 := HY8.out.cell (i := 0) rfl
            have e1 := HY8.out.cell (i := 1) rfl
            have e2 := HY8.out.cell (i := 2) rfl
            by_cases hux : (u1, u2, u3) = (x1, x2, x3)
            · have hq : ∀ W, (binOp .eql 49 (.agg #[.int .i64 u1, .int .i64 u2, .int .i64 u3]) (.agg #[.int .i64 x1, .int .i64 x2, .int .i64 x3])).run Tryz.prog W = .ok (.bool true) W := fun W => by
                have e := eq_dart_run (u1, u2, u3) (x1, x2, x3) W
                rw [decide_eq_true hux] at e
                exact e
              have HFin : RowKit.Hid (faceL g N (x1, x2, x3) = (pre ++ [(⟨(y1, y2, y3), Hys.out⟩ : D2)]).map (·.1)) := Lib.hid (by rw [HFt.out, Hto.out, if_pos hux]; simp)
              go_wp2
              refine bodyPost_ret (results_none rfl _ _ _) rfl ?_
              exact ⟨⟨_, rfl⟩, .inl ⟨_, HFin.out.symm, HJ8.out⟩⟩
            · have hq : ∀ W, (binOp .eql 49 (.agg #[.int .i64 u1, .int .i64 u2, .int .i64 u3]) (.agg #[.int .i64 x1, .int .i64 x2, .int .i64 x3])).run Tryz.prog W = .ok (.bool false) W := fun W => by
                have e := eq_dart_run (u1, u2, u3) (x1, x2, x3) W
                rw [decide_eq_false hux] at e
                exact e
              have HFin : RowKit.Hid ((pre ++ [(⟨(y1, y2, y3), Hys.out⟩ : D2)]).length = j + 1 ∧ wfS (u1, u2, u3) ∧ faceL g N (x1, x2, x3) = (pre ++ [(⟨(y1, y2, y3), Hys.out⟩ : D2)]).map (·.1) ++ trG g (x1, x2, x3) (N - (j + 1)) (u1, u2, u3)) := Lib.hid ⟨by simp [Hpl.out], Hus.out, by rw [HFt.out, Hto.out, if_neg hux]; simp⟩
              clear Hto HFt Hus
              go_wp2
              go_roundw
              case rel => exact ⟨j + 1, _, (u1, u2, u3), by omega, by go_num, rfl, HFin, HJ8, HX8, HN8, HM8, HY8⟩
              case measure => simp [intOf] <;> omega
          · have hu : g (othD (y1, y2, y3)) = none := by simpa using ho
            have hLK : ∀ w', MapD w' bm q (opV g) Sk → (Instr.lookup 118 (.map (some bm)) (.agg #[.int .i64 y1, .int .i64 y2, .int .i64 (1 - y3)]) true).run Tryz.prog w' = .ok (.tuple #[.agg #[.int .i64 0, .int .i64 0, .int .i64 0], .bool false]) w' := fun w' h => by
              have e := h.mapF.look (x := othD (y1, y2, y3)) Tryz.underlying118 (zero_dartV w') Hys.out.oth.1
              rw [opV_none hu] at e
              exact e
            have HFin : RowKit.Hid (faceL g N (x1, x2, x3) = (pre ++ [(⟨(y1, y2, y3), Hys.out⟩ : D2)]).map (·.1)) := Lib.hid (by rw [HFt.out, trG, hu]; simp)
            have HLK := Lib.hid hLK
            clear hLK ho hu
            go_upto_region 6 with fail
            have HLd : RowKit.Hid (∀ W', Ext W3.drew W' → W'.cell? ⟨b, 0, none⟩ = some (.int .i64 y1) ∧ W'.cell? ⟨b, 1, none⟩ = some (.int .i64 y2) ∧ W'.cell? ⟨b, 2, none⟩ = some (.int .i64 y3) ∧ W'.cell? ⟨bn, 0, none⟩ = some (.map (some bm))) :=
              Lib.hid (fun W' h => ⟨(HY3.out.dr.bl h).cell (i := 0) rfl, (HY3.out.dr.bl h).cell (i := 1) rfl, (HY3.out.dr.bl h).cell (i := 2) rfl, (HN3.out.dr.bl h).cell (i := 0) rfl⟩)
            refine wp_region_in3 7 6 (fun i => i = b) (gamL [some (.map (some bm)), some (.agg #[.int .i64 y1, .int .i64 y2, .int .i64 y3]), some (.agg #[.int .i64 y1, .int .i64 y2, .int .i64 (1 - y3)]), some (.tuple #[.agg #[.int .i64 0, .int .i64 0, .int .i64 0], .bool false]), some (.tuple #[.agg #[.int .i64 0, .int .i64 0, .int .i64 0], .bool false]), some (.agg #[.int .i64 0, .int .i64 0, .int .i64 0]), some (.bool false)] 99 0 0 []) (Ext W3.drew) (by kernel_rfl) (by kernel_rfl) (by kernel_rfl) (by kernel_rfl) (by kernel_rfl) (by kernel_rfl) (by simp only [List.getElem?_toArray, List.getElem?_cons_succ, List.getElem?_cons_zero]; exact rfl) (by kernel_rfl) (by kernel_rfl) (by kernel_rfl) ?_ (fun i v w1 w2 h hx => gamL_up i v w1 w2 h hx) (fun _ _ h k => h.trans k) (Ext.refl _) ?_ ?_ ?_
            · exact fun _ _ _ _ h => h
            · intro i hi9
              have hcase : i = 0 ∨ i = 1 ∨ i = 2 ∨ i = 3 ∨ i = 4 ∨ i = 5 ∨ i = 6 := by omega
              rcases hcase with rfl | rfl | rfl | rfl | rfl | rfl | rfl
              · intro o ho x y hg hdep
                simp only [List.getElem?_toArray, List.getElem?_cons_succ, List.getElem?_cons_zero, Option.some.injEq] at ho
                subst ho
                obtain ⟨hl0, hl1, hl2, hl3⟩ := HLd.out _ hg
                simp only [dsts, List.map_cons, List.map_nil, putAll, Act.put, stA_, st0_, st1_]
                refine .inl ⟨by rfl, ?_⟩
                go_simp
                exact ⟨Ext.refl _, rfl⟩
              · intro o ho x y hg hdep
                simp only [List.getElem?_toArray, List.getElem?_cons_succ, List.getElem?_cons_zero, Option.some.injEq] at ho
                subst ho
                obtain ⟨hl0, hl1, hl2, hl3⟩ := HLd.out _ hg
                simp only [dsts, List.map_cons, List.map_nil, putAll, Act.put, stA_, st0_, st1_]
                refine .inl ⟨by rfl, ?_⟩
                go_simp
                exact ⟨Ext.refl _, rfl⟩
              · intro o ho x y hg hdep
                simp only [List.getElem?_toArray, List.getElem?_cons_succ, List.getElem?_cons_zero, Option.some.injEq] at ho
                subst ho
                have d1 : x 1 = .agg #[.int .i64 y1, .int .i64 y2, .int .i64 y3] := hdep 1 (by decide)
                simp only [dsts, List.map_cons, List.map_nil, putAll, Act.put, stA_, st0_, st1_]
                simp only [d1]
                refine .inl ⟨by rfl, outT_call (by go_simp; first | done | exact ⟨rfl, rfl⟩ | with_reducible rfl) ?_⟩
                refine (show Calls Tryz.prog 107 #[.agg #[.int .i64 y1, .int .i64 y2, .int .i64 y3]] y (fun e w'' => e = .returned (.agg #[.int .i64 y1, .int .i64 y2, .int .i64 (1 - y3)]) ∧ Below y.heap.size y w'') from otherF_any (y1, y2, y3) Hys.out y).mono ?_
                rintro e w2 ⟨rfl, hb⟩
                exact ⟨_, rfl, hb, rfl⟩
              · intro o ho x y hg hdep
                simp only [List.getElem?_toArray, List.getElem?_cons_succ, List.getElem?_cons_zero, Option.some.injEq] at ho
                subst ho
                have d0 : x 0 = .map (some bm) := hdep 0 (by decide)
                have d2 : x 2 = .agg #[.int .i64 y1, .int .i64 y2, .int .i64 (1 - y3)] := hdep 2 (by decide)
                simp only [dsts, List.map_cons, List.map_nil, putAll, Act.put, stA_, st0_, st1_]
                simp only [d0, d2]
                refine .inl ⟨by rfl, outT_run (w' := y) (exec_mapLook (b := some bm) (by rfl) (by rfl) (by rfl) (HLK.out y (HM3.out.dr.bl hg))) (Ext.refl _) ?_⟩
                exact rfl
              · intro o ho x y hg hdep
                simp only [List.getElem?_toArray, List.getElem?_cons_succ, List.getElem?_cons_zero, Option.some.injEq] at ho
                subst ho
                have d3 : x 3 = .tuple #[.agg #[.int .i64 0, .int .i64 0, .int .i64 0], .bool false] := hdep 3 (by decide)
                simp only [dsts, List.map_cons, List.map_nil, putAll, Act.put, stA_, st0_, st1_]
                simp only [d3]
                refine .inl ⟨by rfl, ?_⟩
                go_simp
                exact ⟨Ext.refl _, rfl⟩
              · intro o ho x y hg hdep
                simp only [List.getElem?_toArray, List.getElem?_cons_succ, List.getElem?_cons_zero, Option.some.injEq] at ho
                subst ho
                have d4 : x 4 = .tuple #[.agg #[.int .i64 0, .int .i64 0, .int .i64 0], .bool false] := hdep 4 (by decide)
                simp only [dsts, List.map_cons, List.map_nil, putAll, Act.put, stA_, st0_, st1_]
                simp only [d4]
                refine .inl ⟨by rfl, ?_⟩
                go_simp
                exact ⟨Ext.refl _, rfl⟩
              · intro o ho x y hg hdep
                simp only [List.getElem?_toArray, List.getElem?_cons_succ, List.getElem?_cons_zero, Option.some.injEq] at ho
                subst ho
                have d4 : x 4 = .tuple #[.agg #[.int .i64 0, .int .i64 0, .int .i64 0], .bool false] := hdep 4 (by decide)
                simp only [dsts, List.map_cons, List.map_nil, putAll, Act.put, stA_, st0_, st1_]
                simp only [d4]
                refine .inl ⟨by rfl, ?_⟩
                go_simp
                exact ⟨Ext.refl _, rfl⟩
            · intro x y hg hall
              have d4 : x 4 = .tuple #[.agg #[.int .i64 0, .int .i64 0, .int .i64 0], .bool false] := hall 4 (by decide) (by decide)
              simp only [dsts, List.map_cons, List.map_nil, putAll, Act.put, stA_, st0_, st1_]
              simp only [d4]
              refine ⟨.bool false, ?_, rfl⟩
              apply yr_run; rfl; intro w' hw'; go_simp; (try with_reducible rfl)
            intro x y hg hall
            have d0 : x 0 = .map (some bm) := hall 0 (by decide)
            have d1 : x 1 = .agg #[.int .i64 y1, .int .i64 y2, .int .i64 y3] := hall 1 (by decide)
            have d2 : x 2 = .agg #[.int .i64 y1, .int .i64 y2, .int .i64 (1 - y3)] := hall 2 (by decide)
            have d3 : x 3 = .tuple #[.agg #[.int .i64 0, .int .i64 0, .int .i64 0], .bool false] := hall 3 (by decide)
            have d4 : x 4 = .tuple #[.agg #[.int .i64 0, .int .i64 0, .int .i64 0], .bool false] := hall 4 (by decide)
            have d5 : x 5 = .agg #[.int .i64 0, .int .i64 0, .int .i64 0] := hall 5 (by decide)
            have d6 : x 6 = .bool false := hall 6 (by decide)
            simp only [dsts, List.map_cons, List.map_nil, putAll, Act.put, stA_, st0_, st1_]
            simp only [d0, d1, d2, d3, d4, d5, d6]
            clear hall d0 d1 d2 d3 d4 d5 d6
            apply wpR_store 7
            · rfl
            · rfl
            · kernel_rfl
            · rfl
            intro w' hw'
            have HYw := Lib.hid ((HY3.out.dr.bl hg).bl hw')
            have HJw := Lib.hid ((HJc.out _).bel ((HJc.out _).bel HJ3.out (bel_bl (bel_dr (Below.refl _ W3)) hg)) hw')
            refine ⟨w'.setRow b #[.int .i64 0, .int .i64 0, .int .i64 0], store_row_run 49 (.tmp 4) (.tmp 30) rfl b rfl [.int .i64 0, .int .i64 0, .int .i64 0] rfl 49 [.int .i64 y1, .int .i64 y2, .int .i64 y3] HYw.out (by kernel_rfl) rfl (by simp [Value.oneCell']), kept_row (S := fun i => i = b) rfl _, ?_⟩
            have HYs : RowKit.Hid (Whole (w'.setRow b #[.int .i64 0, .int .i64 0, .int .i64 0]) b 49 [.int .i64 0, .int .i64 0, .int .i64 0]) := Lib.hid (Whole.row HYw.out [.int .i64 0, .int .i64 0, .int .i64 0])
            have HXs : RowKit.Hid (Whole (w'.setRow b #[.int .i64 0, .int .i64 0, .int .i64 0]) bx 49 [.int .i64 x1, .int .i64 x2, .int .i64 x3]) := Lib.hid (((HX3.out.dr.bl hg).bl hw').row_far (by omega) _)
            have HNs : RowKit.Hid (Whole (w'.setRow b #[.int .i64 0, .int .i64 0, .int .i64 0]) bn 118 [.map (some bm)]) := Lib.hid (((HN3.out.dr.bl hg).bl hw').row_far (by omega) _)
            have HMs : RowKit.Hid (MapD (w'.setRow b #[.int .i64 0, .int .i64 0, .int .i64 0]) bm q (opV g) Sk) := Lib.hid (((HM3.out.dr.bl hg).bl hw').kept (S' := fun i => i = b) (kept_row (S := fun i => i = b) rfl _) (by omega))
            have HJs := Lib.hid ((HJc.out _).row HJw.out #[.int .i64 0, .int .i64 0, .int .i64 0])
            obtain ⟨V1, gV1⟩ : ∃ z, w'.setRow b #[.int .i64 0, .int .i64 0, .int .i64 0] = z := ⟨_, rfl⟩
            rw [gV1] at HYs HXs HNs HMs HJs ⊢
            clear hw' hg gV1 HYw HJw HX3 HN3 HM3 HY3 HJ3 HLK HLd
            refine opR_ 8 5 (v := ?_) ?_ ?_; rotate_left
            · intro w' hw'; go_simp; (try with_reducible rfl)
            simp only [st0_, st1_]
            refine wpR_done (by kernel_rfl) ?_ _
            intro W8 hw8
            have HX8 := Lib.hid (HXs.out.bl hw8)
            have HN8 := Lib.hid (HNs.out.bl hw8)
            have HM8 := Lib.hid (HMs.out.bl hw8)
            have HY8 := Lib.hid (HYs.out.bl hw8)
            have HJ8 := Lib.hid ((HJc.out _).bel HJs.out hw8)
            clear hw8 HXs HNs HMs HYs HJs
            have c0 := HX8.out.cell (i := 0) rfl
            have c1 := HX8.out.cell (i := 1) rfl
            have c2 := HX8.out.cell (i := 2) rfl
            have e0 := HY8.out.cell (i := 0) rfl
            have e1 := HY8.out.cell (i := 1) rfl
            have e2 := HY8.out.cell (i := 2) rfl
            go_wp2
            refine bodyPost_ret (results_none rfl _ _ _) rfl ?_
            exact ⟨⟨_, rfl⟩, .inl ⟨_, HFin.out.symm, HJ8.out⟩⟩
        · have HJ3 := Lib.hid hJx3
          clear hJx3
          gi_wp2
          have HFin : RowKit.Hid ((pre ++ [(⟨(y1, y2, y3), Hys.out⟩ : D2)]).map (·.1) <+: faceL g N (x1, x2, x3)) := Lib.hid ⟨(match g (othD (y1, y2, y3)) with | none => [] | some z => if z = (x1, x2, x3) then [] else trG g (x1, x2, x3) (N - (j + 1)) z), by rw [HFt.out, trG]; simp⟩
          go_wp2
          refine bodyPost_ret (results_none rfl _ _ _) rfl ?_
          exact ⟨⟨_, rfl⟩, .inr ⟨_, HFin.out, HJ3.out⟩⟩
      · obtain rfl : N = j := by omega
        go_wp2
        go_end0
        exact ⟨⟨_, rfl⟩, .inl ⟨pre, by have h := HF.out.2.2; rw [Nat.sub_self] at h; rw [h]; simp [trG], HJ.out⟩⟩
  · have hgn : g (x1, x2, x3) = none := by simpa using hgx
    have Hz := Lib.hid (opV_none hgn)
    have Hfl : RowKit.Hid (faceL g N (x1, x2, x3) = []) := Lib.hid (by unfold faceL; rw [if_neg hgx])
    clear hgx hgn
    go_upto_region 2 with (at_lookup; refine wl_mapLook rfl _ _ rfl rfl HM0.out.mapF Tryz.underlying118 (zero_dartV _) (x := (x1, x2, x3)) Hx.out rfl ?_; rw [Hz.out]; simp only [Option.getD_some, Option.getD_none, Option.isSome_some, Option.isSome_none, dV])
    go_wp2
    refine bodyPost_ret (results_none rfl _ _ _) rfl ?_
    exact ⟨⟨_, rfl⟩, .inl ⟨[], by rw [Hfl.out]; rfl, (HJc.out []).bel HJ0.out (below1 _ _)⟩⟩
end Go.Proofs.YtmkflebkifbpfaaGreat
/- The face of a dart, gathered; and whether a dart is in it. -/
namespace Go.Proofs.YtmkflebkifbpfaaGreat
open Go.RowKit
attribute [local go_sem] Oper.semAt_some
theorem trG_len (g : D → Option D) (x : D) : ∀ k y, (trG g x k y).length ≤ k
  | 0, _ => Nat.le_refl _
  | k + 1, y => by
    rw [trG, List.length_cons]
    split
    · simp
    · split
      · simp
      · have := trG_len g x k ‹D›; omega
theorem faceL_len (g : D → Option D) (N : Nat) (x : D) : (faceL g N x).length ≤ N := by
  unfold faceL
  split
  · exact trG_len _ _ _ _
  · simp
theorem own_base {w : World} {lo lo' : Nat} {e : TypeId} {k n : Nat} {v : Value} {xs : List Value} (h : w.ownsRow lo e k v n xs) (hb : lo' ≤ lo) : w.ownsRow lo' e k v n xs := by
  refine ⟨h.1, ?_⟩
  rcases h.2 with q | ⟨g, cap, cur, q1, q2, q3⟩
  · exact .inl q
  · exact .inr ⟨g, cap, cur, q1, by omega, q3⟩
/-- What has come of a face lies in a row of its own, above block bl + 2. -/
def SeqI (b0 bl : Nat) (w0 : World) (p : List D2) (W : World) : Prop := ∃ A c, Whole W b0 45 [.slice A p.length c] ∧ W.ownsRow (bl + 3) 49 3 (.slice A p.length c) p.length (dartsV (p.map (·.1))) ∧ Below w0.heap.size w0 W
theorem SeqI.abs {b0 bl : Nat} {w0 : World} {p : List D2} (h : b0 < bl) (hw : w0.heap.size ≤ bl) : AbS bl (SeqI b0 bl w0 p) := by
  rintro W W' r ⟨A, c, h1, h2, h3⟩ hg hr1 hr2
  refine ⟨A, c, h1.at_ (hg.block b0 h1.lt (fun e => by cases e; omega)), h2.kept hg (.inr (fun e => by have := (h2.lt r e).1; omega)), h3.grown hg h3.size (fun k e => by cases e; omega)⟩
theorem SeqI.al {b0 bl : Nat} {w0 W : World} {p : List D2} (h : SeqI b0 bl w0 p W) (o : Obj) : SeqI b0 bl w0 p (W.alloc o) := by
  obtain ⟨A, c, h1, h2, h3⟩ := h
  exact ⟨A, c, h1.al o, h2.alloc o, bel_al h3 o⟩
end Go.Proofs.YtmkflebkifbpfaaGreat
/- Trace. -/
namespace Go.Proofs.YtmkflebkifbpfaaGreat
open Go.RowKit
/-- S are the keys of g. -/
def KeysD (g : D → Option D) (S : List D) : Prop := S.Nodup ∧ (∀ d ∈ S, wfD d) ∧ ∀ x, wfD x → (x ∈ S ↔ (g x).isSome = true)
theorem MapD.keysD {w : World} {b n : Nat} {g : D → Option D} {S : List D} (h : MapD w b n (opV g) S) : KeysD g S :=
  ⟨h.nd, h.wf, fun x hx => by rw [h.keys hx]; unfold opV; simp⟩
theorem nxR_some {P : D → Prop} (R : List D) (hR : ∀ d ∈ R, P d) : ∀ k (f : D → Option D), k ≤ R.length → (∀ d e, f d = some e → P e) → ∀ d e, nxR R k f d = some e → P e
  | 0, f, _, hf => hf
  | k + 1, f, hk, hf => fun d e he => by
    unfold nxR at he
    split at he
    · obtain rfl := Option.some.inj he
      have hl : (k + 1) % R.length < R.length := Nat.mod_lt _ (by omega)
      rw [List.getD_eq_getElem?_getD, List.getElem?_eq_getElem hl]
      exact hR _ (List.getElem_mem hl)
    · exact nxR_some R hR k f (by omega) hf d e he
theorem nxV_some {P : D → Prop} : ∀ (L : List VC) (f : D → Option D), (∀ v ∈ L, ∀ d ∈ v.2.1.2.2.2, P d) → (∀ d e, f d = some e → P e) → ∀ d e, nxV L f d = some e → P e
  | [], f, _, hf => hf
  | v :: r, f, hL, hf => nxV_some r _ (fun u hu => hL u (List.mem_cons_of_mem _ hu)) (nxR_some _ (hL v (List.mem_cons_self ..)) _ _ (Nat.le_refl _) hf)
theorem sigM_some {P : D → Prop} {Vs : List VC} (h : ∀ v ∈ Vs, ∀ d ∈ v.2.1.2.2.2, P d) : ∀ d e, sigM Vs d = some e → P e := nxV_some Vs _ h (fun _ _ q => by cases q)
theorem nxR_key {P : D → Prop} (R : List D) (hR : ∀ d ∈ R, P d) : ∀ k (f : D → Option D), k ≤ R.length → (∀ d, (f d).isSome = true → P d) → ∀ d, (nxR R k f d).isSome = true → P d
  | 0, f, _, hf => hf
  | k + 1, f, hk, hf => fun d he => by
    unfold nxR at he
    split at he
    · rename_i e
      have hl : k < R.length := by omega
      rw [e, List.getD_eq_getElem?_getD, List.getElem?_eq_getElem hl]
      exact hR _ (List.getElem_mem hl)
    · exact nxR_key R hR k f (by omega) hf d he
theorem nxV_key {P : D → Prop} : ∀ (L : List VC) (f : D → Option D), (∀ v ∈ L, ∀ d ∈ v.2.1.2.2.2, P d) → (∀ d, (f d).isSome = true → P d) → ∀ d, (nxV L f d).isSome = true → P d
  | [], f, _, hf => hf
  | v :: r, f, hL, hf => nxV_key r _ (fun u hu => hL u (List.mem_cons_of_mem _ hu)) (nxR_key _ (hL v (List.mem_cons_self ..)) _ _ (Nat.le_refl _) hf)
theorem sigM_key {P : D → Prop} {Vs : List VC} (h : ∀ v ∈ Vs, ∀ d ∈ v.2.1.2.2.2, P d) : ∀ d, (sigM Vs d).isSome = true → P d := nxV_key Vs _ h (fun _ q => by cases q)
end Go.Proofs.YtmkflebkifbpfaaGreat
/- The document's own Turn, Remove, Insert: what they answer has a capacity that is an int. -/
namespace Go.Proofs.YtmkflebkifbpfaaGreat
open Go.RowKit
def insR (L : List D) (a d : D) : List D := if d ∈ L then L else L.take ((max (idxD L a) 0).toNat + 1) ++ d :: L.drop ((max (idxD L a) 0).toNat + 1)
theorem idxD_mem {L : List D} {d : D} (h : d ∈ L) : idxD L d = (L.idxOf d : Int) ∧ L.idxOf d < L.length := ⟨by rw [idxD, if_pos h], List.idxOf_lt_length_of_mem h⟩
theorem idxD_no {L : List D} {d : D} (h : ¬ d ∈ L) : idxD L d = -1 := by rw [idxD, if_neg h]
end Go.Proofs.YtmkflebkifbpfaaGreat
/- Rings that are turned: what is only turned is the same. -/
namespace Go.Proofs.YtmkflebkifbpfaaGreat
open Go.RowKit
def Rot (A B : List D) : Prop := ∃ X Y, A = X ++ Y ∧ B = Y ++ X
theorem Rot.symm {A B : List D} (h : Rot A B) : Rot B A := by
  obtain ⟨X, Y, rfl, rfl⟩ := h
  exact ⟨Y, X, rfl, rfl⟩
theorem Rot.trans {A B C : List D} (h : Rot A B) (k : Rot B C) : Rot A C := by
  obtain ⟨X, Y, rfl, rfl⟩ := h
  obtain ⟨U, V, e, rfl⟩ := k
  rcases List.append_eq_append_iff.1 e with ⟨Z, h1, h2⟩ | ⟨Z, h1, h2⟩
  · exact ⟨Z, V ++ Y, by rw [h2]; simp, by rw [h1]; simp⟩
  · exact ⟨X ++ U, Z, by rw [h1]; simp, by rw [h2]; simp⟩
theorem Rot.len {A B : List D} (h : Rot A B) : A.length = B.length := by
  obtain ⟨X, Y, rfl, rfl⟩ := h
  simp only [List.length_append]; omega
theorem Rot.mem {A B : List D} (h : Rot A B) (d : D) : d ∈ A ↔ d ∈ B := by
  obtain ⟨X, Y, rfl, rfl⟩ := h
  simp only [List.mem_append]; exact Or.comm
theorem Rot.filter {A B : List D} (h : Rot A B) (p : D → Bool) : Rot (A.filter p) (B.filter p) := by
  obtain ⟨X, Y, rfl, rfl⟩ := h
  exact ⟨X.filter p, Y.filter p, by simp, by simp⟩
theorem Rot.map {A B : List D} (h : Rot A B) (f : D → D) : Rot (A.map f) (B.map f) := by
  obtain ⟨X, Y, rfl, rfl⟩ := h
  exact ⟨X.map f, Y.map f, by simp, by simp⟩
end Go.Proofs.YtmkflebkifbpfaaGreat
/- A dart that stands at another vertex, or at two: the numbers. -/
namespace Go.Proofs.YtmkflebkifbpfaaGreat
open Go.RowKit
theorem turn_perm (L : List D) : (turnD L).Perm L := by
  unfold turnD
  exact List.perm_append_comm.trans (by rw [List.take_append_drop])
theorem insR_perm {L : List D} {a d : D} (h : ¬ d ∈ L) : (insR L a d).Perm (d :: L) := by
  rw [insR, if_neg h]
  refine List.perm_middle.trans ?_
  rw [List.take_append_drop]
/-- A vertex with another ring. -/
def rgV (v : VC) (L : List D) : VC := (v.1, (none, L.length, 0, L), v.2.2)
def insV (x : D) (v : VC) : VC := rgV v (turnD (insR v.2.1.2.2.2 (0, 0, 0) x))
theorem ringsOf_app (A B : List VC) : ringsOf (A ++ B) = ringsOf A ++ ringsOf B := List.flatMap_append ..
theorem ringsOf_one (v : VC) (B : List VC) : ringsOf (v :: B) = v.2.1.2.2.2 ++ ringsOf B := List.flatMap_cons ..
theorem rings_set {Vs : List VC} {k : Nat} {u u' : VC} {x : D} (hu : Vs[k]? = some u) (hp : u'.2.1.2.2.2.Perm (x :: u.2.1.2.2.2)) : (ringsOf (Vs.set k u')).Perm (x :: ringsOf Vs) := by
  obtain ⟨hk, e⟩ := List.getElem?_eq_some_iff.1 hu
  have e1 : Vs = Vs.take k ++ u :: Vs.drop (k + 1) := by
    rw [← e, ← List.drop_eq_getElem_cons hk, List.take_append_drop]
  have e2 : Vs.set k u' = Vs.take k ++ u' :: Vs.drop (k + 1) := by
    rw [List.set_eq_take_append_cons_drop, if_pos hk]
  rw [e2]
  conv => rhs; rw [e1]
  rw [ringsOf_app, ringsOf_app, ringsOf_one, ringsOf_one]
  refine ((List.Perm.append_right _ hp).append_left _).trans ?_
  simp only [List.cons_append]
  exact List.perm_middle
theorem ring_nodup {Vs : List VC} (h : (ringsOf Vs).Nodup) {v : VC} (hv : v ∈ Vs) : v.2.1.2.2.2.Nodup := by
  obtain ⟨a, b, rfl⟩ := List.append_of_mem hv
  rw [ringsOf_app, ringsOf_one] at h
  exact (List.nodup_append.1 (List.nodup_append.1 h).2.1).1
section
variable {Vs : List VC} {Es : List EC}
theorem Formed.two (h : Formed Vs Es) {x : D} (hx : x ∈ ringsOf Vs) {k : Nat} {y : VC} (hy : Vs[k]? = some y) (hnx : ¬ x ∈ y.2.1.2.2.2) : formD (Vs.set k (insV x y)) Es = 10 := by
  have hym := List.mem_of_getElem? hy
  have hno := h.once
  have e0 : decide (24 < (Vs.set k (insV x y)).length ∨ 40 < Es.length) = false := decide_eq_false (by have := h.v24; have := h.e40; rw [List.length_set]; omega)
  have e1 := map_setSame (fun v : VC => v.1) Vs k y (insV x y) hy rfl
  have e2 : onceF (edS Es []) (ringsOf (Vs.set k (insV x y))) = false := by
    cases hb : onceF (edS Es []) (ringsOf (Vs.set k (insV x y))) with
    | false => rfl
    | true =>
      have h1 := (onceF_perm _ _).1 hb
      have h2 := (rings_set hy (x := x) (u' := insV x y) ((turn_perm _).trans (insR_perm hnx))).symm.trans h1
      have h3 := h2.nodup_iff.2 (edS_nodup Es [] List.nodup_nil)
      exact absurd hx (List.nodup_cons.1 h3).1
  unfold formD formB
  rw [e0, e1, e2, h.rv, h.re]
  simp
end
end Go.Proofs.YtmkflebkifbpfaaGreat
/- The document's labels, on numbers: lesser places spread along edges come to the same labels. -/
namespace Go.Proofs.YtmkflebkifbpfaaGreat
open Go.RowKit
/-- The lesser of both labels, for both. -/
def rlx (L : List Int) (e : Nat × Nat) : List Int := (L.set e.1 (min (L.getD e.1 0) (L.getD e.2 0))).set e.2 (min (L.getD e.1 0) (L.getD e.2 0))
def rndN (P : List (Nat × Nat)) (n : Nat) : Nat → List Int
  | 0 => upN n
  | j + 1 => P.foldl rlx (rndN P n j)
theorem rlx_len (L : List Int) (e : Nat × Nat) : (rlx L e).length = L.length := by simp [rlx]
theorem fold_len : ∀ (P : List (Nat × Nat)) (L : List Int), (P.foldl rlx L).length = L.length
  | [], _ => rfl
  | e :: P, L => by rw [List.foldl_cons, fold_len P, rlx_len]
theorem rnd_len (P : List (Nat × Nat)) (n : Nat) : ∀ j, (rndN P n j).length = n
  | 0 => by simp [rndN, upN]
  | j + 1 => by rw [rndN, fold_len, rnd_len P n j]
theorem getD_set (L : List Int) (i k : Nat) (v : Int) (hi : i < L.length) : (L.set i v).getD k 0 = if i = k then v else L.getD k 0 := by
  rw [List.getD_eq_getElem?_getD, List.getElem?_set, List.getD_eq_getElem?_getD]
  by_cases h : i = k
  · subst h
    simp [hi]
  · simp [h]
theorem rlx_get {L : List Int} {a b : Nat} (ha : a < L.length) (hb : b < L.length) (k : Nat) : (rlx L (a, b)).getD k 0 = if k = a ∨ k = b then min (L.getD a 0) (L.getD b 0) else L.getD k 0 := by
  unfold rlx
  rw [getD_set _ _ _ _ (by simpa using hb), getD_set _ _ _ _ ha]
  by_cases h1 : b = k
  · rw [if_pos h1, if_pos (.inr h1.symm)]
  · rw [if_neg h1]
    by_cases h2 : a = k
    · rw [if_pos h2, if_pos (.inl h2.symm)]
    · rw [if_neg h2, if_neg (fun h => h.elim (fun h => h2 h.symm) (fun h => h1 h.symm))]
/-- Between M and what it was. -/
def Down (n : Nat) (M L L' : List Int) : Prop := L'.length = n ∧ ∀ i, i < n → M.getD i 0 ≤ L'.getD i 0 ∧ L'.getD i 0 ≤ L.getD i 0
theorem rlx_down {n : Nat} {M L : List Int} {a b : Nat} (hl : L.length = n) (hM : ∀ i, i < n → M.getD i 0 ≤ L.getD i 0) (ha : a < n) (hb : b < n) (he : M.getD a 0 = M.getD b 0) : Down n M L (rlx L (a, b)) := by
  refine ⟨by rw [rlx_len, hl], fun i hi => ?_⟩
  rw [rlx_get (by omega) (by omega)]
  have h1 := hM a ha
  have h2 := hM b hb
  have h3 := hM i hi
  split
  · rename_i h
    rcases h with rfl | rfl <;> omega
  · omega
theorem fold_down {n : Nat} {M : List Int} : ∀ (P : List (Nat × Nat)) (L : List Int), L.length = n → (∀ i, i < n → M.getD i 0 ≤ L.getD i 0) → (∀ e ∈ P, e.1 < n ∧ e.2 < n ∧ M.getD e.1 0 = M.getD e.2 0) → Down n M L (P.foldl rlx L)
  | [], L, hl, hM, _ => ⟨hl, fun i hi => ⟨hM i hi, Int.le_refl _⟩⟩
  | (a, b) :: P, L, hl, hM, hP => by
    obtain ⟨h1, h2, h3⟩ := hP (a, b) (List.mem_cons_self ..)
    have hd := rlx_down hl hM h1 h2 h3
    obtain ⟨g1, g2⟩ := fold_down P (rlx L (a, b)) hd.1 (fun i hi => (hd.2 i hi).1) (fun e he => hP e (List.mem_cons_of_mem _ he))
    exact ⟨g1, fun i hi => ⟨(g2 i hi).1, Int.le_trans (g2 i hi).2 (hd.2 i hi).2⟩⟩
/-- An edge of which one end has its least label gives it to the other. -/
theorem fold_edge {n : Nat} {M : List Int} {a b : Nat} : ∀ (P : List (Nat × Nat)) (L : List Int), L.length = n → (∀ i, i < n → M.getD i 0 ≤ L.getD i 0) → (∀ e ∈ P, e.1 < n ∧ e.2 < n ∧ M.getD e.1 0 = M.getD e.2 0) → (a, b) ∈ P →
    (L.getD a 0 = M.getD a 0 ∨ L.getD b 0 = M.getD b 0) → (P.foldl rlx L).getD a 0 = M.getD a 0 ∧ (P.foldl rlx L).getD b 0 = M.getD b 0
  | (c, d) :: P, L, hl, hM, hP, hm, ho => by
    obtain ⟨h1, h2, h3⟩ := hP (c, d) (List.mem_cons_self ..)
    obtain ⟨k1, k2, k3⟩ := hP (a, b) hm
    simp only at k1 k2 k3 h1 h2 h3
    have hd := rlx_down hl hM h1 h2 h3
    have hPr := fun e he => hP e (List.mem_cons_of_mem (c, d) he)
    rw [List.foldl_cons]
    by_cases e : (a, b) = (c, d)
    · injection e with e1 e2
      subst e1 e2
      have hdn := fold_down P (rlx L (a, b)) hd.1 (fun i hi => (hd.2 i hi).1) hPr
      have ga := rlx_get (L := L) (a := a) (b := b) (by omega) (by omega) a
      have gb := rlx_get (L := L) (a := a) (b := b) (by omega) (by omega) b
      rw [if_pos (.inl rfl)] at ga
      rw [if_pos (.inr rfl)] at gb
      have ma := hM a k1
      have mb := hM b k2
      obtain ⟨q1, q2⟩ := hdn.2 a k1
      obtain ⟨q3, q4⟩ := hdn.2 b k2
      rw [ga] at q2
      rw [gb] at q4
      have hmin : min (L.getD a 0) (L.getD b 0) = M.getD a 0 := by rcases ho with h | h <;> omega
      constructor <;> omega
    · have hm2 : (a, b) ∈ P := (List.mem_cons.1 hm).resolve_left e
      refine fold_edge P (rlx L (c, d)) hd.1 (fun i hi => (hd.2 i hi).1) hPr hm2 ?_
      rcases ho with h | h
      · have := hd.2 a k1; exact .inl (by omega)
      · have := hd.2 b k2; exact .inr (by omega)
/-- How many have their least label. -/
def hasB (M L : List Int) (i : Nat) : Bool := L.getD i 0 == M.getD i 0
theorem rounds_lab {n : Nat} {P : List (Nat × Nat)} {M : List Int} (h : Lab n (fun i k => (i, k) ∈ P) M) (hP : ∀ e ∈ P, e.1 < n ∧ e.2 < n) : rndN P n n = M := by
  have hP3 : ∀ e ∈ P, e.1 < n ∧ e.2 < n ∧ M.getD e.1 0 = M.getD e.2 0 := fun e he => ⟨(hP e he).1, (hP e he).2, h.co e.1 e.2 (hP e he).1 (hP e he).2 he⟩
  have hok : ∀ i, i < n → 0 ≤ M.getD i 0 ∧ M.getD i 0 ≤ i ∧ M.getD (M.getD i 0).toNat 0 = M.getD i 0 := fun i hi => h.ok i (by rw [h.len]; exact hi)
  -- each stays above M, and below its place
  have hge : ∀ j, ∀ i, i < n → M.getD i 0 ≤ (rndN P n j).getD i 0 ∧ (rndN P n j).getD i 0 ≤ i := fun j => by
    induction j with
    | zero =>
      intro i hi
      show M.getD i 0 ≤ (upN n).getD i 0 ∧ (upN n).getD i 0 ≤ i
      rw [up_get n i hi]
      exact ⟨(hok i hi).2.1, Int.le_refl _⟩
    | succ j ih =>
      intro i hi
      have hd := fold_down P (rndN P n j) (rnd_len P n j) (fun i hi => (ih i hi).1) hP3
      exact ⟨(hd.2 i hi).1, Int.le_trans (hd.2 i hi).2 (ih i hi).2⟩
  have hmono : ∀ j i, i < n → hasB M (rndN P n j) i = true → hasB M (rndN P n (j + 1)) i = true := fun j i hi hb => by
    have hd := fold_down P (rndN P n j) (rnd_len P n j) (fun i hi => (hge j i hi).1) hP3
    have h1 := hd.2 i hi
    have h2 : (rndN P n j).getD i 0 = M.getD i 0 := eq_of_beq hb
    have h3 : (rndN P n (j + 1)).getD i 0 = M.getD i 0 := by
      show (P.foldl rlx (rndN P n j)).getD i 0 = _
      omega
    rw [hasB, h3]
    simp
  -- nothing new in a round: all have it
  have hall : ∀ j, (∀ i, i < n → hasB M (rndN P n (j + 1)) i = hasB M (rndN P n j) i) → ∀ i, i < n → hasB M (rndN P n j) i = true := fun j hs i hi => by
    have hco : Co n (fun i k => (i, k) ∈ P) (fun i => if hasB M (rndN P n j) i = true then 1 else 0) := fun a b ha hb hm => by
      have hedge := fold_edge P (rndN P n j) (rnd_len P n j) (fun i hi => (hge j i hi).1) hP3 hm
      have key : ∀ {x y : Nat}, x < n → y < n → ((rndN P n j).getD x 0 = M.getD x 0 → (rndN P n (j + 1)).getD y 0 = M.getD y 0) → hasB M (rndN P n j) x = true → hasB M (rndN P n j) y = true := fun {x y} hx hy himp hb => by
        rw [← hs y hy, hasB, himp (eq_of_beq hb)]
        simp
      have k1 := key ha hb (fun e => (hedge (.inl e)).2)
      have k2 := key hb ha (fun e => (hedge (.inr e)).1)
      simp only
      by_cases q : hasB M (rndN P n j) a = true
      · rw [if_pos q, if_pos (k1 q)]
      · rw [if_neg q, if_neg (fun h => q (k2 h))]
    obtain ⟨h0, h1, h2⟩ := hok i hi
    obtain ⟨r, hr⟩ : ∃ r : Nat, M.getD i 0 = (r : Int) := ⟨(M.getD i 0).toNat, by omega⟩
    rw [hr, Int.toNat_natCast] at h2
    have hrn : r < n := by omega
    have hroot : hasB M (rndN P n j) r = true := by
      have h3 := hge j r hrn
      rw [h2] at h3
      rw [hasB, h2, beq_iff_eq]
      omega
    have e := h.fin _ hco r i hrn hi (by rw [h2, hr])
    replace e : (if hasB M (rndN P n j) r = true then (1 : Int) else 0) = (if hasB M (rndN P n j) i = true then 1 else 0) := e
    rw [if_pos hroot] at e
    by_cases q : hasB M (rndN P n j) i = true
    · exact q
    · rw [if_neg q] at e
      omega
  -- so many, or all
  have hcnt : ∀ j, (∀ i, i < n → hasB M (rndN P n j) i = true) ∨ j ≤ (List.range n).countP (hasB M (rndN P n j)) := fun j => by
    induction j with
    | zero => exact .inr (Nat.zero_le _)
    | succ j ih =>
      rcases ih with ih | ih
      · exact .inl fun i hi => hmono j i hi (ih i hi)
      · by_cases hs : ∀ i, i < n → hasB M (rndN P n (j + 1)) i = hasB M (rndN P n j) i
        · exact .inl fun i hi => hmono j i hi (hall j hs i hi)
        · refine .inr ?_
          have hex : ∃ i, i < n ∧ hasB M (rndN P n (j + 1)) i = true ∧ hasB M (rndN P n j) i = false := by
            refine Classical.byContradiction fun hno => hs fun i hi => ?_
            cases q1 : hasB M (rndN P n j) i with
            | true => exact hmono j i hi q1
            | false =>
              cases q2 : hasB M (rndN P n (j + 1)) i with
              | false => rfl
              | true => exact absurd ⟨i, hi, q2, q1⟩ hno
          obtain ⟨i0, hi0, q1, q2⟩ := hex
          have h1 : (List.range n).countP (hasB M (rndN P n j)) ≤ (List.range n).countP (fun i => hasB M (rndN P n (j + 1)) i && decide (i ≠ i0)) := by
            refine List.countP_mono_left fun i hi hb => ?_
            have hi := List.mem_range.1 hi
            rw [hmono j i hi hb, Bool.true_and, decide_eq_true_eq]
            rintro rfl
            rw [hb] at q2
            cases q2
          have h2 := countP_one (fun i => hasB M (rndN P n (j + 1)) i && decide (i ≠ i0)) (hasB M (rndN P n (j + 1))) i0 (by simp) q1 (fun i hi => by simp [hi]) n
          rw [if_pos hi0] at h2
          omega
  have hfin : ∀ i, i < n → hasB M (rndN P n n) i = true := by
    rcases hcnt n with h1 | h1
    · exact h1
    · intro i hi
      have h2 : (List.range n).countP (hasB M (rndN P n n)) = (List.range n).length := Nat.le_antisymm List.countP_le_length (by rw [List.length_range]; exact h1)
      exact (List.countP_eq_length.1 h2) i (List.mem_range.2 hi)
  refine List.ext_getElem (by rw [rnd_len, h.len]) fun i h1 h2 => ?_
  have hi : i < n := by rw [rnd_len] at h1; exact h1
  have e : (rndN P n n).getD i 0 = M.getD i 0 := eq_of_beq (hfin i hi)
  rw [List.getD_eq_getElem?_getD, List.getD_eq_getElem?_getD, List.getElem?_eq_getElem h1, List.getElem?_eq_getElem h2] at e
  exact e
/-! The edges' ends, as places. -/
def plcN (Vs : List VC) (d : D) : Nat := (placeF 0 Vs (atV Vs d).1).toNat
def endsF (Vs : List VC) (Es : List EC) : List (Nat × Nat) := Es.map fun e => (plcN Vs (e.1.1, e.1.2, 0), plcN Vs (e.1.1, e.1.2, 1))
section
variable {Vs : List VC} {Es : List EC}
theorem Formed.stands (h : Formed Vs Es) {i : Nat} {v : VC} (hv : Vs[i]? = some v) {d : D} (hd : d ∈ v.2.1.2.2.2) : atV Vs d = (v.1, true) ∧ placeF 0 Vs v.1 = (i : Int) := by
  refine ⟨h.at (List.mem_of_getElem? hv) hd, ?_⟩
  have := place_at Vs 0 i v (rise_nodup h.rv) hv
  simpa using this
theorem Formed.plc (h : Formed Vs Es) {i : Nat} {v : VC} (hv : Vs[i]? = some v) {d : D} (hd : d ∈ v.2.1.2.2.2) : plcN Vs d = i := by
  obtain ⟨h1, h2⟩ := h.stands hv hd
  rw [plcN, h1, h2]
  simp
theorem Formed.dart (h : Formed Vs Es) {e : EC} (he : e ∈ Es) (s : Int) (hs : s = 0 ∨ s = 1) : ∃ i v, Vs[i]? = some v ∧ (e.1.1, e.1.2, s) ∈ v.2.1.2.2.2 ∧ i < Vs.length := by
  have h1 : (e.1.1, e.1.2, s) ∈ ringsOf Vs := h.pm.mem_iff.2 ((edS_mem Es [] _).2 (.inr ⟨e, he, by rcases hs with rfl | rfl; exact .inl rfl; exact .inr rfl⟩))
  obtain ⟨v, hv, hr⟩ := List.mem_flatMap.1 h1
  obtain ⟨i, hi⟩ := List.getElem?_of_mem hv
  exact ⟨i, v, hi, hr, (List.getElem?_eq_some_iff.1 hi).1⟩
theorem Formed.of_dart (h : Formed Vs Es) {v : VC} (hv : v ∈ Vs) {d : D} (hd : d ∈ v.2.1.2.2.2) : ∃ e ∈ Es, e.1 = (d.1, d.2.1) ∧ (d.2.2 = 0 ∨ d.2.2 = 1) := by
  have h1 := h.pm.mem_iff.1 (List.mem_flatMap.2 ⟨v, hv, hd⟩)
  rcases (edS_mem Es [] d).1 h1 with h2 | ⟨e, he, h2 | h2⟩
  · cases h2
  · exact ⟨e, he, by rw [h2], .inl (by rw [h2])⟩
  · exact ⟨e, he, by rw [h2], .inr (by rw [h2])⟩
theorem ends_lt (h : Formed Vs Es) : ∀ e ∈ endsF Vs Es, e.1 < Vs.length ∧ e.2 < Vs.length := fun p hp => by
  obtain ⟨e, he, rfl⟩ := List.mem_map.1 hp
  obtain ⟨i, v, hv, hd, hi⟩ := h.dart he 0 (.inl rfl)
  obtain ⟨k, u, hu, hd2, hk⟩ := h.dart he 1 (.inr rfl)
  rw [h.plc hv hd, h.plc hu hd2]
  exact ⟨hi, hk⟩
theorem co_ends (h : Formed Vs Es) (f : Nat → Int) : Co Vs.length (Sh Vs) f ↔ Co Vs.length (fun i k => (i, k) ∈ endsF Vs Es) f := by
  constructor
  · rintro hf i k hi hk hm
    obtain ⟨e, he, hp⟩ := List.mem_map.1 hm
    obtain ⟨a, v, hv, hd, ha⟩ := h.dart he 0 (.inl rfl)
    obtain ⟨b, u, hu, hd2, hb⟩ := h.dart he 1 (.inr rfl)
    rw [h.plc hv hd, h.plc hu hd2] at hp
    injection hp with e1 e2
    subst e1 e2
    exact hf _ _ ha hb ⟨(e.1.1, e.1.2), ⟨v, hv, _, hd, rfl⟩, ⟨u, hu, _, hd2, rfl⟩⟩
  · rintro hf i k hi hk ⟨y, ⟨v, hv, x, hx, rfl⟩, ⟨u, hu, z, hz, ez⟩⟩
    obtain ⟨e, he, e1, hs⟩ := h.of_dart (List.mem_of_getElem? hv) hx
    obtain ⟨e', he', e1', hs'⟩ := h.of_dart (List.mem_of_getElem? hu) hz
    have hpx := h.plc hv hx
    have hpz := h.plc hu hz
    obtain ⟨x1, x2, x3⟩ := x
    obtain ⟨z1, z2, z3⟩ := z
    simp only [Prod.mk.injEq] at ez
    obtain ⟨rfl, rfl⟩ := ez
    simp only at e1 hs hs'
    have hm : (plcN Vs (x1, x2, 0), plcN Vs (x1, x2, 1)) ∈ endsF Vs Es := List.mem_map.2 ⟨e, he, by rw [e1]⟩
    have hb := ends_lt h _ hm
    have hfe := hf _ _ hb.1 hb.2 hm
    rcases hs with rfl | rfl <;> rcases hs' with rfl | rfl
    · rw [hpx] at hpz; rw [hpz]
    · rw [hpx, hpz] at hfe; exact hfe
    · rw [hpx, hpz] at hfe; exact hfe.symm
    · rw [hpx] at hpz; rw [hpz]
theorem labF_ends (h : Formed Vs Es) : Lab Vs.length (fun i k => (i, k) ∈ endsF Vs Es) (labF Vs) := (labF_lab Vs).of_iff (co_ends h)
/-- What the document's labels come to. -/
theorem rounds_eq (h : Formed Vs Es) : rndN (endsF Vs Es) Vs.length Vs.length = labF Vs := rounds_lab (labF_ends h) (ends_lt h)
theorem cnt_le (Vs : List VC) : cntF (labF Vs) ≤ Vs.length := by
  unfold cntF
  have := List.countP_le_length (p := rootB (labF Vs)) (l := List.range (labF Vs).length)
  rw [List.length_range, labF_len] at this
  rw [labF_len]
  exact this
end
end Go.Proofs.YtmkflebkifbpfaaGreat
/- The next dart round a vertex and round a face, as functions that are one to one on the darts of a diagram that is well formed. -/
namespace Go.Proofs.YtmkflebkifbpfaaGreat
open Go.RowKit
theorem nxR_get {R : List D} (hn : R.Nodup) (f : D → Option D) : ∀ k, k ≤ R.length → ∀ y, nxR R k f y = if y ∈ R.take k then some (R.getD ((R.idxOf y + 1) % R.length) (0, 0, 0)) else f y
  | 0, _, y => by simp [nxR]
  | k + 1, hk, y => by
    have hk' : k < R.length := by omega
    have e : R.take (k + 1) = R.take k ++ [R.getD k (0, 0, 0)] := by
      rw [List.take_succ_eq_append_getElem hk', List.getD_eq_getElem?_getD, List.getElem?_eq_getElem hk']
      rfl
    have ei : R.idxOf (R.getD k (0, 0, 0)) = k := by
      rw [List.getD_eq_getElem?_getD, List.getElem?_eq_getElem hk']
      exact hn.idxOf_getElem k hk'
    rw [nxR]
    show (if y = R.getD k (0, 0, 0) then some (R.getD ((k + 1) % R.length) (0, 0, 0)) else nxR R k f y) = _
    rw [nxR_get hn f k (by omega) y, e]
    by_cases q : y = R.getD k (0, 0, 0)
    · rw [if_pos q, if_pos (List.mem_append.2 (.inr (List.mem_singleton.2 q))), q, ei]
    · rw [if_neg q]
      by_cases q2 : y ∈ R.take k
      · rw [if_pos q2, if_pos (List.mem_append.2 (.inl q2))]
      · rw [if_neg q2, if_neg (fun h => (List.mem_append.1 h).elim q2 (fun h => q (List.mem_singleton.1 h)))]
/-- The next one round its ring, of a dart that is there. -/
def nxtR (R : List D) (y : D) : D := R.getD ((R.idxOf y + 1) % R.length) (0, 0, 0)
theorem nxV_get : ∀ (Vs : List VC) (f : D → Option D), (ringsOf Vs).Nodup → (∀ y, y ∉ ringsOf Vs → nxV Vs f y = f y) ∧ ∀ v ∈ Vs, ∀ y ∈ v.2.1.2.2.2, nxV Vs f y = some (nxtR v.2.1.2.2.2 y)
  | [], f, _ => ⟨fun _ _ => rfl, by simp⟩
  | v :: r, f, hn => by
    have hn0 := hn
    rw [ringsOf_cons, List.nodup_append] at hn
    obtain ⟨h1, h2⟩ := nxV_get r (nxR v.2.1.2.2.2 v.2.1.2.2.2.length f) hn.2.1
    have hg := fun y => nxR_get hn.1 f v.2.1.2.2.2.length (Nat.le_refl _) y
    rw [List.take_length] at hg
    constructor
    · intro y hy
      rw [ringsOf_cons, List.mem_append, not_or] at hy
      rw [nxV, h1 y hy.2, hg, if_neg hy.1]
    · intro u hu y hy
      rcases List.mem_cons.1 hu with rfl | hu
      · have hy2 : y ∉ ringsOf r := fun q => hn.2.2 y hy y q rfl
        rw [nxV, h1 y hy2, hg, if_pos hy]
        rfl
      · rw [nxV]
        exact h2 u hu y hy
section
variable {Vs : List VC} {Es : List EC}
theorem sigM_at (hn : (ringsOf Vs).Nodup) {v : VC} (hv : v ∈ Vs) {y : D} (hy : y ∈ v.2.1.2.2.2) : sigM Vs y = some (nxtR v.2.1.2.2.2 y) := (nxV_get Vs _ hn).2 v hv y hy
theorem sigM_no (hn : (ringsOf Vs).Nodup) {y : D} (hy : y ∉ ringsOf Vs) : sigM Vs y = none := (nxV_get Vs _ hn).1 y hy
theorem ring_mem {y : D} : y ∈ ringsOf Vs ↔ ∃ v ∈ Vs, y ∈ v.2.1.2.2.2 := List.mem_flatMap
/-- The next dart round its vertex; and round its face. -/
def sgF (Vs : List VC) (y : D) : D := (sigM Vs y).getD (0, 0, 0)
def phF (Vs : List VC) (y : D) : D := sgF Vs (othD y)
theorem sgF_at (hn : (ringsOf Vs).Nodup) {v : VC} (hv : v ∈ Vs) {y : D} (hy : y ∈ v.2.1.2.2.2) : sgF Vs y = nxtR v.2.1.2.2.2 y := by rw [sgF, sigM_at hn hv hy]; rfl
theorem sigM_eq (hn : (ringsOf Vs).Nodup) (y : D) : sigM Vs y = if y ∈ ringsOf Vs then some (sgF Vs y) else none := by
  by_cases h : y ∈ ringsOf Vs
  · obtain ⟨v, hv, hy⟩ := ring_mem.1 h
    rw [if_pos h, sgF, sigM_at hn hv hy]
    rfl
  · rw [if_neg h, sigM_no hn h]
theorem nxtR_mem {R : List D} {y : D} (hy : y ∈ R) : nxtR R y ∈ R := by
  have hl := List.length_pos_of_mem hy
  have : (R.idxOf y + 1) % R.length < R.length := Nat.mod_lt _ hl
  rw [nxtR, List.getD_eq_getElem?_getD, List.getElem?_eq_getElem this]
  exact List.getElem_mem _
theorem nxtR_inj {R : List D} (hn : R.Nodup) {x y : D} (hx : x ∈ R) (hy : y ∈ R) (e : nxtR R x = nxtR R y) : x = y := by
  have hl := List.length_pos_of_mem hx
  have h1 : (R.idxOf x + 1) % R.length < R.length := Nat.mod_lt _ hl
  have h2 : (R.idxOf y + 1) % R.length < R.length := Nat.mod_lt _ hl
  unfold nxtR at e
  rw [List.getD_eq_getElem?_getD, List.getD_eq_getElem?_getD, List.getElem?_eq_getElem h1, List.getElem?_eq_getElem h2] at e
  have e1 : (R.idxOf x + 1) % R.length = (R.idxOf y + 1) % R.length := (List.getElem_inj hn).1 e
  have i1 := List.idxOf_lt_length_of_mem hx
  have i2 := List.idxOf_lt_length_of_mem hy
  have e2 : R.idxOf x = R.idxOf y := by
    by_cases q1 : R.idxOf x + 1 = R.length
    · rw [q1, Nat.mod_self] at e1
      by_cases q2 : R.idxOf y + 1 = R.length
      · omega
      · rw [Nat.mod_eq_of_lt (show R.idxOf y + 1 < R.length by omega)] at e1
        omega
    · rw [Nat.mod_eq_of_lt (show R.idxOf x + 1 < R.length by omega)] at e1
      by_cases q2 : R.idxOf y + 1 = R.length
      · rw [q2, Nat.mod_self] at e1
        omega
      · rw [Nat.mod_eq_of_lt (show R.idxOf y + 1 < R.length by omega)] at e1
        omega
  have g1 : R[R.idxOf x]'i1 = x := List.getElem_idxOf i1
  have g2 : R[R.idxOf y]'i2 = y := List.getElem_idxOf i2
  rw [← g1, ← g2]
  exact (List.getElem_inj hn).2 e2
theorem sig_pm (hn : (ringsOf Vs).Nodup) : Pm (sgF Vs) (ringsOf Vs) := by
  have key : ∀ {v : VC}, v ∈ Vs → ∀ {x : D}, x ∈ v.2.1.2.2.2 → ∀ {u : VC}, u ∈ Vs → x ∈ u.2.1.2.2.2 → u.2.1.2.2.2 = v.2.1.2.2.2 := by
    intro v hv x hx u hu hx2
    have e1 := sigM_at hn hv hx
    clear e1
    revert hv hu
    generalize Vs = Ws at hn
    induction Ws with
    | nil => intro h; cases h
    | cons z r ih =>
      intro h1 h2
      rw [ringsOf_cons, List.nodup_append] at hn
      rcases List.mem_cons.1 h1 with e1 | k1
      · rcases List.mem_cons.1 h2 with e2 | k2
        · rw [e1, e2]
        · exact (hn.2.2 x (e1 ▸ hx) x (List.mem_flatMap.2 ⟨u, k2, hx2⟩) rfl).elim
      · rcases List.mem_cons.1 h2 with e2 | k2
        · exact (hn.2.2 x (e2 ▸ hx2) x (List.mem_flatMap.2 ⟨v, k1, hx⟩) rfl).elim
        · exact ih hn.2.1 k1 k2
  refine ⟨hn, fun x hx => ?_, fun x hx y hy e => ?_⟩
  · obtain ⟨v, hv, hx⟩ := ring_mem.1 hx
    rw [sgF_at hn hv hx]
    exact ring_mem.2 ⟨v, hv, nxtR_mem hx⟩
  · obtain ⟨v, hv, hx⟩ := ring_mem.1 hx
    obtain ⟨u, hu, hy⟩ := ring_mem.1 hy
    rw [sgF_at hn hv hx, sgF_at hn hu hy] at e
    have h1 := nxtR_mem hx
    have h2 := nxtR_mem hy
    have e2 := key hv h1 hu (e ▸ h2)
    rw [e2] at e hy
    exact nxtR_inj (ring_nodup hn hv) hx hy e
theorem oth_oth (d : D) : othD (othD d) = d := by
  obtain ⟨a, b, c⟩ := d
  show (a, b, 1 - (1 - c)) = (a, b, c)
  rw [show (1 : Int) - (1 - c) = c by omega]
theorem Formed.mem (h : Formed Vs Es) (d : D) : d ∈ ringsOf Vs ↔ ∃ e ∈ Es, e.1 = (d.1, d.2.1) ∧ (d.2.2 = 0 ∨ d.2.2 = 1) := by
  rw [h.pm.mem_iff, edS_mem]
  constructor
  · rintro (q | ⟨e, he, rfl | rfl⟩)
    · cases q
    · exact ⟨e, he, rfl, .inl rfl⟩
    · exact ⟨e, he, rfl, .inr rfl⟩
  · rintro ⟨e, he, e1, q⟩
    obtain ⟨a, b, c⟩ := d
    refine .inr ⟨e, he, ?_⟩
    simp only at e1 q
    rcases q with rfl | rfl
    · exact .inl (by rw [e1])
    · exact .inr (by rw [e1])
theorem Formed.oth (h : Formed Vs Es) {d : D} (hd : d ∈ ringsOf Vs) : othD d ∈ ringsOf Vs := by
  obtain ⟨e, he, e1, q⟩ := (h.mem d).1 hd
  exact (h.mem _).2 ⟨e, he, e1, by show 1 - d.2.2 = 0 ∨ 1 - d.2.2 = 1; omega⟩
theorem Formed.ohs (h : Formed Vs Es) (d : D) : othD d ∈ ringsOf Vs ↔ d ∈ ringsOf Vs := ⟨fun q => oth_oth d ▸ h.oth q, h.oth⟩
theorem Formed.phi (h : Formed Vs Es) : Pm (phF Vs) (ringsOf Vs) :=
  ⟨h.once, fun x hx => (sig_pm h.once).cl _ (h.oth hx), fun x hx y hy e => by
    have := (sig_pm h.once).inj _ (h.oth hx) _ (h.oth hy) e
    rw [← oth_oth x, this, oth_oth]⟩
theorem Formed.wfS (h : Formed Vs Es) (hg : GoodD Vs Es) {d : D} (hd : d ∈ ringsOf Vs) : wfS d := by
  obtain ⟨v, hv, hr⟩ := ring_mem.1 hd
  obtain ⟨e, he, e1, q⟩ := (h.mem d).1 hd
  exact ⟨hg.v v hv d hr, by omega, by omega⟩
theorem Formed.l80 (h : Formed Vs Es) : (ringsOf Vs).length ≤ 80 := by rw [h.len]; have := h.e40; omega
theorem trG_orb (h : Formed Vs Es) (x : D) : ∀ (k : Nat) (y : D), y ∈ ringsOf Vs → trG (sigM Vs) x k y = orbT (phF Vs) x k y
  | 0, _, _ => rfl
  | k + 1, y, hy => by
    have hz := h.phi.cl y hy
    rw [trG, orbT, sigM_eq h.once, if_pos (h.oth hy)]
    show y :: (if phF Vs y = x then [] else trG (sigM Vs) x k (phF Vs y)) = _
    rw [trG_orb h x k _ hz]
/-- The face of any dart: none, if it is not there. -/
def faceD (Vs : List VC) (x : D) : List D := if x ∈ ringsOf Vs then orbT (phF Vs) x 80 x else []
theorem faceL_eq (h : Formed Vs Es) {N : Nat} (hN : (ringsOf Vs).length ≤ N) (x : D) : faceL (sigM Vs) N x = faceD Vs x := by
  rw [faceL, faceD, sigM_eq h.once]
  by_cases hx : x ∈ ringsOf Vs
  · rw [if_pos hx, if_pos hx]
    obtain ⟨p, hp, hpl⟩ := h.phi.per hx
    have := h.l80
    rw [trG_orb h x N x hx, orbT_all hp (by omega), orbT_all hp (by omega)]
    rfl
  · rw [if_neg hx, if_neg hx]
    rfl
theorem faceD_len (h : Formed Vs Es) (x : D) : (faceD Vs x).length ≤ 80 := by
  rw [faceD]
  by_cases hx : x ∈ ringsOf Vs
  · obtain ⟨p, hp, hpl⟩ := h.phi.per hx
    have := h.l80
    rw [if_pos hx, orbT_all hp (by omega), orb_len]
    omega
  · rw [if_neg hx]
    exact Nat.zero_le _
theorem KeysD.formed {S : List D} (h : Formed Vs Es) (hg : GoodD Vs Es) (k : KeysD (sigM Vs) S) : S.length = (ringsOf Vs).length := by
  have hm : ∀ x, x ∈ S ↔ x ∈ ringsOf Vs := fun x => by
    constructor
    · intro hx
      have h1 := (k.2.2 x (k.2.1 x hx)).1 hx
      rw [sigM_eq h.once] at h1
      by_cases q : x ∈ ringsOf Vs
      · exact q
      · rw [if_neg q] at h1; cases h1
    · intro hx
      refine (k.2.2 x (h.wfS hg hx).1).2 ?_
      rw [sigM_eq h.once, if_pos hx]
      rfl
  exact Nat.le_antisymm (nd_le k.1 fun x hx => (hm x).1 hx) (nd_le h.once fun x hx => (hm x).2 hx)
end
end Go.Proofs.YtmkflebkifbpfaaGreat
/- The darts of edges. -/
namespace Go.Proofs.YtmkflebkifbpfaaGreat
open Go.RowKit
/-- The darts of edges, edge by edge. -/
def dsE (L : List EC) : List D := L.flatMap fun e => [(e.1.1, e.1.2, 0), (e.1.1, e.1.2, 1)]
theorem dsE_cons (e : EC) (L : List EC) : dsE (e :: L) = (e.1.1, e.1.2, 0) :: (e.1.1, e.1.2, 1) :: dsE L := rfl
theorem dsE_app (L M : List EC) : dsE (L ++ M) = dsE L ++ dsE M := by simp [dsE, List.flatMap_append]
theorem dsE_next (L : List EC) (j : Nat) (x : EC) (h : L[j]? = some x) : dsE (L.take (j + 1)) = dsE (L.take j) ++ [(x.1.1, x.1.2, 0), (x.1.1, x.1.2, 1)] := by
  rw [List.take_add_one, h, dsE_app]
  rfl
theorem dsE_len : ∀ L : List EC, (dsE L).length = 2 * L.length
  | [] => rfl
  | e :: r => by
    rw [dsE_cons, List.length_cons, List.length_cons, dsE_len r, List.length_cons]
    omega
theorem dsE_mem (L : List EC) (d : D) : d ∈ dsE L ↔ ∃ e ∈ L, e.1 = (d.1, d.2.1) ∧ (d.2.2 = 0 ∨ d.2.2 = 1) := by
  obtain ⟨a, b, c⟩ := d
  unfold dsE
  rw [List.mem_flatMap]
  constructor
  · rintro ⟨e, he, h⟩
    refine ⟨e, he, ?_⟩
    simp only [List.mem_cons, Prod.mk.injEq, List.mem_nil_iff, or_false] at h
    rcases h with ⟨rfl, rfl, rfl⟩ | ⟨rfl, rfl, rfl⟩
    · exact ⟨rfl, .inl rfl⟩
    · exact ⟨rfl, .inr rfl⟩
  · rintro ⟨e, he, h1, h2⟩
    refine ⟨e, he, ?_⟩
    simp only [List.mem_cons, Prod.mk.injEq, List.mem_nil_iff, or_false]
    simp only at h1 h2
    rw [h1]
    rcases h2 with rfl | rfl
    · exact .inl ⟨rfl, rfl, rfl⟩
    · exact .inr ⟨rfl, rfl, rfl⟩
theorem Formed.ds {Vs : List VC} {Es : List EC} (h : Formed Vs Es) (d : D) : d ∈ dsE Es ↔ d ∈ ringsOf Vs := by rw [dsE_mem, h.mem]
end Go.Proofs.YtmkflebkifbpfaaGreat
/- Vertices, edges, faces and parts: edge by edge, each makes of one face two, or of two one. -/
namespace Go.Proofs.YtmkflebkifbpfaaGreat
open Go.RowKit
theorem itN_congr {α : Type} {f g : α → α} {L : List α} (h : Pm f L) (e : ∀ x ∈ L, f x = g x) {x : α} (hx : x ∈ L) : ∀ k, itN f k x = itN g k x
  | 0 => rfl
  | k + 1 => by rw [it_succ, it_succ, ← itN_congr h e hx k, e _ (h.it hx k)]
theorem Rl_congr {α : Type} {f g : α → α} {L : List α} (h : Pm f L) (e : ∀ x ∈ L, f x = g x) {x : α} (hx : x ∈ L) (y : α) : Rl f x y ↔ Rl g x y :=
  ⟨fun ⟨i, q⟩ => ⟨i, (itN_congr h e hx i).symm.trans q⟩, fun ⟨i, q⟩ => ⟨i, (itN_congr h e hx i).trans q⟩⟩
theorem Reps.congr {α : Type} {f g : α → α} {L P : List α} (h : Pm f L) (e : ∀ x ∈ L, f x = g x) (hP : Reps f L P) : Reps g L P :=
  ⟨hP.nd, hP.sub, fun x hx => by
    obtain ⟨p, hp, r⟩ := hP.all x hx
    exact ⟨p, hp, (Rl_congr h e (hP.sub p hp) x).1 r⟩, fun p hp q hq r => hP.one p hp q hq ((Rl_congr h e (hP.sub p hp) q).2 r)⟩
def aloneN (Vs : List VC) : Nat := (Vs.filter fun v => decide (v.2.1.2.2.2 = [])).length
section
variable {Vs : List VC} {Es : List EC}
/-- Faces that darts go round. -/
def facN (Vs : List VC) (Es : List EC) : Nat := (orbsF (phF Vs) 80 (dsE Es) []).length
theorem facN_reps (h : Formed Vs Es) : ∃ P, Reps (phF Vs) (ringsOf Vs) P ∧ facN Vs Es = P.length := by
  obtain ⟨P, hP, e⟩ := orbs_reps h.phi h.l80 (dsE Es) h.ds
  exact ⟨P, hP, by rw [facN, e, List.length_map]⟩
end
end Go.Proofs.YtmkflebkifbpfaaGreat
/- Each part has a face. -/
namespace Go.Proofs.YtmkflebkifbpfaaGreat
open Go.RowKit
section
variable {Vs : List VC} {Es : List EC}
end
end Go.Proofs.YtmkflebkifbpfaaGreat
/- Share. -/
namespace Go.Proofs.YtmkflebkifbpfaaGreat
open Go.RowKit
attribute [local go_sem] Oper.semAt_some
end Go.Proofs.YtmkflebkifbpfaaGreat
/- ident.OrderDart lays blocks alone. -/
namespace Go.Proofs.YtmkflebkifbpfaaGreat
open Go.RowKit Go.Shelf Go.Lib Go.Sort
/-- Blocks alone are laid. -/
def GrW (w w' : World) : Prop := ∃ q os, w' = grow (w.drewN q) os
def PureGw (k : FuncId) (args : Array Value) (v : Value) : Prop := ∀ w : World, Calls Tryz.prog k args w fun e w' => e = .returned v ∧ GrW w w'
theorem gr2 (w : World) (o o' : Obj) : GrW w ((w.alloc o).alloc o') := ⟨0, _, by rw [alloc_eq_grow, alloc_eq_grow, grow_grow]; rfl⟩
theorem GrW.below {w w' : World} (h : GrW w w') : Below w.heap.size w w' := by
  obtain ⟨q, os, rfl⟩ := h
  refine ⟨rfl, rfl, rfl, ?_, fun k hk => ?_⟩
  · simp [grow, World.drewN]
  · simp [grow, World.drewN, Array.getElem?_append, hk]
theorem gr_after2 {w w' : World} {o o' : Obj} (h : GrW ((w.alloc o).alloc o') w') : GrW w w' := by
  obtain ⟨q, os, rfl⟩ := h
  refine ⟨q, (#[o] ++ #[o']) ++ os, ?_⟩
  rw [alloc_eq_grow, alloc_eq_grow, grow_grow, show (grow w (#[o] ++ #[o'])).drewN q = grow (w.drewN q) (#[o] ++ #[o']) from rfl, grow_grow]
theorem order_same_g (s n : Int) (w : World) :
    Calls Tryz.prog 67 #[.agg #[.int .i64 s, .int .i64 n], .agg #[.int .i64 s, .int .i64 n]] w fun e w' => e = .returned (.int .i64 0) ∧ GrW w w' := by
  go_enter Tryz.func67, Tryz.ntmps67
  go_wp2
  go_ret
  exact ⟨rfl, gr2 _ _ _⟩
theorem order_site_lt_g (s n s' n' : Int) (w : World) (h : s < s') :
    Calls Tryz.prog 67 #[.agg #[.int .i64 s, .int .i64 n], .agg #[.int .i64 s', .int .i64 n']] w fun e w' => e = .returned (.int .i64 (-1)) ∧ GrW w w' := by
  have h1 : (s == s') = false := by simp; omega
  have h2 : (s != s') = true := by simp; omega
  go_enter Tryz.func67, Tryz.ntmps67
  go_wp2
  go_ret
  exact ⟨rfl, gr2 _ _ _⟩
theorem order_site_gt_g (s n s' n' : Int) (w : World) (h : s' < s) :
    Calls Tryz.prog 67 #[.agg #[.int .i64 s, .int .i64 n], .agg #[.int .i64 s', .int .i64 n']] w fun e w' => e = .returned (.int .i64 1) ∧ GrW w w' := by
  have h1 : (s == s') = false := by simp; omega
  have h2 : (s != s') = true := by simp; omega
  have h3 : ¬ s < s' := by omega
  go_enter Tryz.func67, Tryz.ntmps67
  go_wp2
  go_ret
  exact ⟨rfl, gr2 _ _ _⟩
theorem order_n_lt_g (s n n' : Int) (w : World) (h : n < n') :
    Calls Tryz.prog 67 #[.agg #[.int .i64 s, .int .i64 n], .agg #[.int .i64 s, .int .i64 n']] w fun e w' => e = .returned (.int .i64 (-1)) ∧ GrW w w' := by
  have h1 : (n == n') = false := by simp; omega
  go_enter Tryz.func67, Tryz.ntmps67
  go_wp2
  go_ret
  exact ⟨rfl, gr2 _ _ _⟩
theorem order_n_gt_g (s n n' : Int) (w : World) (h : n' < n) :
    Calls Tryz.prog 67 #[.agg #[.int .i64 s, .int .i64 n], .agg #[.int .i64 s, .int .i64 n']] w fun e w' => e = .returned (.int .i64 1) ∧ GrW w w' := by
  have h1 : (n == n') = false := by simp; omega
  have h3 : ¬ n < n' := by omega
  go_enter Tryz.func67, Tryz.ntmps67
  go_wp2
  go_ret
  exact ⟨rfl, gr2 _ _ _⟩
theorem order_any_g (s n s' n' : Int) : PureGw 67 #[.agg #[.int .i64 s, .int .i64 n], .agg #[.int .i64 s', .int .i64 n']] (.int .i64 (ordI s n s' n')) := fun w => by
  unfold ordI cmpI
  by_cases e : s = s'
  · subst e
    rw [if_pos rfl]
    by_cases h1 : n < n'
    · rw [if_pos h1]; exact order_n_lt_g s n n' w h1
    · rw [if_neg h1]
      by_cases h2 : n' < n
      · rw [if_pos h2]; exact order_n_gt_g s n n' w h2
      · rw [if_neg h2]
        obtain rfl : n = n' := by omega
        exact order_same_g s n w
  · rw [if_neg e]
    by_cases h1 : s < s'
    · rw [if_pos h1]; exact order_site_lt_g s n s' n' w h1
    · rw [if_neg h1, if_pos (by omega)]
      exact order_site_gt_g s n s' n' w (by omega)
theorem orderdart_edge_g (s n c s' n' c' : Int) (w : World) (h : ¬ (s = s' ∧ n = n')) :
    Calls Tryz.prog 98 #[.agg #[.int .i64 s, .int .i64 n, .int .i64 c], .agg #[.int .i64 s', .int .i64 n', .int .i64 c']] w fun e w' => e = .returned (.int .i64 (ordI s n s' n')) ∧ GrW w w' := by
  have hm := Lib.hid (order_any_g s n s' n')
  by_cases h0 : s = s'
  · subst h0
    have h1 : (n == n') = false := by simpa using fun e => h ⟨rfl, e⟩
    clear h
    go_enter Tryz.func98, Tryz.ntmps98
    go_wp2_with (first | (go_at_call 67; refine (hm.out _).mono ?_; rintro e w' ⟨rfl, hb⟩; obtain ⟨hc, hf⟩ := bcell hb.below))
    go_ret
    exact ⟨rfl, gr_after2 hb⟩
  · have h1 : (s == s') = false := by simpa using h0
    clear h
    go_enter Tryz.func98, Tryz.ntmps98
    go_wp2_with (first | (go_at_call 67; refine (hm.out _).mono ?_; rintro e w' ⟨rfl, hb⟩; obtain ⟨hc, hf⟩ := bcell hb.below))
    go_ret
    exact ⟨rfl, gr_after2 hb⟩
theorem orderdart_side_g (s n c c' : Int) (w : World) :
    Calls Tryz.prog 98 #[.agg #[.int .i64 s, .int .i64 n, .int .i64 c], .agg #[.int .i64 s, .int .i64 n, .int .i64 c']] w fun e w' => e = .returned (.int .i64 (cmpI c c')) ∧ GrW w w' := by
  unfold cmpI
  by_cases h1 : c < c'
  · rw [if_pos h1]
    go_enter Tryz.func98, Tryz.ntmps98
    go_wp2
    go_ret
    exact ⟨rfl, gr2 _ _ _⟩
  · rw [if_neg h1]
    by_cases h2 : c' < c
    · rw [if_pos h2]
      go_enter Tryz.func98, Tryz.ntmps98
      go_wp2
      go_ret
      exact ⟨rfl, gr2 _ _ _⟩
    · rw [if_neg h2]
      go_enter Tryz.func98, Tryz.ntmps98
      go_wp2
      go_ret
      exact ⟨rfl, gr2 _ _ _⟩
theorem orderdart_any_g (s n c s' n' c' : Int) : PureGw 98 #[.agg #[.int .i64 s, .int .i64 n, .int .i64 c], .agg #[.int .i64 s', .int .i64 n', .int .i64 c']] (.int .i64 (ordD s n c s' n' c')) := fun w => by
  unfold ordD
  by_cases h : s = s' ∧ n = n'
  · rw [if_pos h]
    obtain ⟨rfl, rfl⟩ := h
    exact orderdart_side_g s n c c' w
  · rw [if_neg h]
    exact orderdart_edge_g s n c s' n' c' w h
end Go.Proofs.YtmkflebkifbpfaaGreat
/- Darts are sorted. -/
namespace Go.Proofs.YtmkflebkifbpfaaGreat
open Go.RowKit Go.Shelf Go.Lib Go.Sort
def encD (x : D) : List Value := [.int .i64 x.1, .int .i64 x.2.1, .int .i64 x.2.2]
def cfD (x y : D) : Int := ordD x.1 x.2.1 x.2.2 y.1 y.2.1 y.2.2
theorem ltD (x y : D) : ltOf cfD x y = decide (cfD x y < 0) := rfl
theorem cfD_neg (x y : D) : cfD y x = - cfD x y := ordD_neg _ _ _ _ _ _
theorem cfD_zero (x y : D) : cfD x y = 0 ↔ x = y := by
  unfold cfD
  rw [ordD_zero]
  obtain ⟨a, b, c⟩ := x
  obtain ⟨d, e, f⟩ := y
  simp
theorem cfD_trans (x y z : D) (h : cfD x y ≤ 0) (k : cfD y z ≤ 0) : cfD x z ≤ 0 := ordD_trans _ _ _ _ _ _ _ _ _ h k
theorem swoD : SWO (ltOf cfD) where
  irrefl x := by
    rw [ltD]
    have := (cfD_zero x x).2 rfl
    simp; omega
  trans x y z h1 h2 := by
    rw [ltD] at *
    simp at *
    have a1 := cfD_trans x y z (by omega) (by omega)
    rcases Int.lt_or_eq_of_le a1 with q | q
    · exact q
    · exfalso
      obtain rfl := (cfD_zero x z).1 q
      have := cfD_neg x y
      omega
  ntrans x y z h1 h2 := by
    rw [ltD] at *
    simp at *
    have n1 := cfD_neg x y
    have n2 := cfD_neg y z
    have n3 := cfD_neg x z
    have a1 := cfD_trans z y x (by omega) (by omega)
    omega
theorem totD (x y : D) (h1 : ltOf cfD x y = false) (h2 : ltOf cfD y x = false) : x = y := by
  rw [ltD] at *
  simp at *
  have := cfD_neg x y
  exact (cfD_zero x y).1 (by omega)
def sortD (L : List D) : List D := L.mergeSort fun x y => !(ltOf cfD) y x
theorem dartsV_at (d : Array D) (t : Nat) (h : t < d.size * 3) : (dartsV d.toList)[t]? = some ((encD d[t / 3]!)[t % 3]!) := by
  have hk : t / 3 < d.toList.length := by simp; omega
  obtain ⟨g0, g1, g2⟩ := dartsV_get d.toList (t / 3) hk
  have e : d.toList.getD (t / 3) (0, 0, 0) = d[t / 3]! := by
    have h2 : t / 3 < d.size := by simpa using hk
    rw [List.getD_eq_getElem?_getD, getElem!_pos d _ h2]
    simp [h2]
  rw [e] at g0 g1 g2
  have hr : t % 3 = 0 ∨ t % 3 = 1 ∨ t % 3 = 2 := by omega
  rcases hr with hr | hr | hr
  · rw [hr, show t = t / 3 * 3 from by omega, show t / 3 * 3 / 3 = t / 3 from by omega]; exact g0
  · rw [hr]
    have : t = t / 3 * 3 + 1 := by omega
    rw [show (dartsV d.toList)[t]? = (dartsV d.toList)[t / 3 * 3 + 1]? from by rw [← this]]
    exact g1
  · rw [hr]
    have : t = t / 3 * 3 + 2 := by omega
    rw [show (dartsV d.toList)[t]? = (dartsV d.toList)[t / 3 * 3 + 2]? from by rw [← this]]
    exact g2
theorem holds_own {W : World} {lo n c g : Nat} (d : Array D) (h : W.ownsRow lo 49 3 (.slice (some ⟨g, 0, none⟩) n c) n (dartsV d.toList)) : HoldsK encD 3 W g 0 d := by
  intro j hj
  have hj' : j < d.size * 3 := by simpa using hj
  rw [get_flatK encD 3 d j hj', Nat.zero_add]
  have h1 := h.cells (g := g) rfl j _ (dartsV_at d j hj')
  rw [Addr.add_lit, Nat.zero_add] at h1
  refine ⟨h1, ?_⟩
  rcases h.2 with ⟨q, _⟩ | ⟨g', cap, cur, q1, q2, q3, q4⟩
  · cases q
  · cases q1
    simp [World.frozen?, q3]
theorem own_sorted {W : World} {lo n c g m : Nat} (d d' : Array D) (os : Array Obj) (h : W.ownsRow lo 49 3 (.slice (some ⟨g, 0, none⟩) n c) n (dartsV d.toList)) (hs : d'.size = d.size) :
    (sortWorldK encD 3 W g 0 m d' os).ownsRow lo 49 3 (.slice (some ⟨g, 0, none⟩) n c) n (dartsV d'.toList) ∧ W.grownBy (sortWorldK encD 3 W g 0 m d' os) (some g) := by
  have hH := holds_own d h
  have hlt := (h.lt g rfl).2
  have hl := h.1
  rw [dartsV_length, Array.length_toList] at hl
  have hgr : W.grownBy (sortWorldK encD 3 W g 0 m d' os) (some g) := by
    refine ⟨rfl, rfl, rfl, ?_, fun k hk hne => ?_⟩
    · simp [sortWorldK, putRowK, putRow, mapBlock, grow, ahead]
    · have hkg : k ≠ g := fun e => hne (by rw [e])
      show ((W.heap.modify g (onCells (putCells id 0 (flatK encD 3 d')))) ++ os)[k]? = W.heap[k]?
      rw [Array.getElem?_append_left (by simpa using hk), Array.getElem?_modify, if_neg (Ne.symm hkg)]
  refine ⟨?_, hgr⟩
  refine ⟨by rw [dartsV_length, Array.length_toList, hs]; exact hl, .inr ?_⟩
  rcases h.2 with ⟨q, _⟩ | ⟨g', cap, cur, q1, q2, q3, q4, q5, q6, q7⟩
  · cases q
  cases q1
  refine ⟨g, c, putCells id 0 (flatK encD 3 d') cur, rfl, q2, ?_, q4, q5, by simp [putCells, q6], ?_⟩
  · show ((W.heap.modify g (onCells (putCells id 0 (flatK encD 3 d')))) ++ os)[g]? = _
    rw [Array.getElem?_append_left (by simpa using hlt), Array.getElem?_modify, if_pos rfl, q3]
    rfl
  · apply List.ext_getElem?
    intro t
    by_cases ht : t < n * 3
    · have ht' : t < d'.size * 3 := by omega
      rw [dartsV_at d' t ht', List.getElem?_take, if_pos ht]
      have hcs : t < cur.size := by rw [q6]; have := Nat.mul_le_mul_right 3 q4; omega
      have hg := get_flatK encD 3 d' t ht'
      rw [getElem!_pos _ t (by simpa using ht')] at hg
      simp [putCells, hcs, ht']
      simpa using hg
    · rw [List.getElem?_eq_none (by simp; omega), List.getElem?_eq_none (by rw [dartsV_length, Array.length_toList]; omega)]
theorem sortD_any (L : List D) (lo n c : Nat) (A : Option Addr) (W : World) (h : W.ownsRow lo 49 3 (.slice A n c) n (dartsV L)) (hn : n < 4611686018427387904) :
    Calls Tryz.prog 105 #[.slice A n c, .func (.func 98) #[] #[]] W fun e w' => e = .returned (.tuple #[]) ∧ w'.ownsRow lo 49 3 (.slice A n c) n (dartsV (sortD L)) ∧ W.grownBy w' (Value.slice A n c).ownBlock := by
  have hl := h.1
  rw [dartsV_length] at hl
  have h2 := h.2
  rcases h2 with ⟨q, hn0⟩ | ⟨g, cap, cur, q1, q2, q3, q4, q5, q6, q7⟩
  · cases q
    have hL : L = [] := List.eq_nil_of_length_eq_zero (by omega)
    subst hL
    refine (AnyF.slices_SortFunc_none Tryz.sortD none 0 _ W).mono ?_
    rintro e w' ⟨rfl, rfl⟩
    exact ⟨rfl, (by first | exact h | simpa [sortD] using h), World.grownBy.refl _ _⟩
  · injection q1 with e1 e2 e3
    subst e1
    have hsz : L.toArray.size = n := by simp; omega
    have hcon := AnyQ.slices_SortFunc_total Tryz.sortD 3 Tryz.isAgg49 Tryz.sizeOf49 encD (fun _ => rfl) (fun x v hv => by simp [encD] at hv; rcases hv with rfl | rfl | rfl <;> rfl) cfD swoD 98 #[] g 0 c L.toArray W
      (enters_of Tryz.func98 (by kernel_rfl) rfl) (fun m os dk _ x y => by obtain ⟨a, b, e⟩ := x; obtain ⟨a2, b2, e2⟩ := y; exact orderdart_any_g a b e a2 b2 e2 _) (holds_own L.toArray h) (h.lt g rfl).2 (by rw [hsz]; exact hn) totD
    rw [hsz] at hcon
    refine hcon.mono ?_
    rintro e w' ⟨rfl, m, os, rfl⟩
    obtain ⟨r1, r2⟩ := own_sorted (m := m) L.toArray (sortD L).toArray os h (by simp [sortD])
    exact ⟨rfl, r1, r2⟩
end Go.Proofs.YtmkflebkifbpfaaGreat
/- All darts. -/
namespace Go.Proofs.YtmkflebkifbpfaaGreat
open Go.RowKit
/-- The darts of the first j vertices. -/
def dsV (L : List VC) : List D := L.flatMap (·.2.1.2.2.2)
theorem dsV_next (L : List VC) (j : Nat) (x : VC) (h : L[j]? = some x) : dsV (L.take (j + 1)) = dsV (L.take j) ++ x.2.1.2.2.2 := by
  unfold dsV
  rw [List.take_add_one, h, List.flatMap_append]
  simp
theorem dsV_len (L : List VC) (h : ∀ x ∈ L, x.2.1.2.2.2.length ≤ 1000000) : (dsV L).length ≤ L.length * 1000000 := by
  induction L with
  | nil => simp [dsV]
  | cons v L ih =>
    have h1 := h v (List.mem_cons_self ..)
    have h2 := ih (fun x hx => h x (List.mem_cons_of_mem _ hx))
    unfold dsV at *
    rw [List.flatMap_cons, List.length_append, List.length_cons]
    omega
set_option maxRecDepth 100000 in
set_option maxHeartbeats 4000000 in
theorem darts_any (A : Option Addr) (n c : Nat) (Vs : List VC) (B : Option Addr) (m k : Nat) (Es : List EC) (w : World) (h : DgIn w A n c Vs B m k Es) (hn : n ≤ 1000000) (hr : ∀ x ∈ Vs, x.2.1.2.1 ≤ 1000000) :
    Calls Tryz.prog 100 #[.agg #[.slice A n c, .slice B m k]] w fun e w' => ∃ A' c', e = .returned (.slice A' (dsV Vs).length c') ∧ w'.ownsRow (w.heap.size + 1) 49 3 (.slice A' (dsV Vs).length c') (dsV Vs).length (dartsV (sortD (dsV Vs))) ∧ Below w.heap.size w w' := by
  have HV := Lib.hid h.v
  have HRg := Lib.hid h.r
  have Hlv := Lib.hid (h.v.rlen vC_len (by decide))
  have Hhr := Lib.hid hr
  obtain ⟨i0, hi, hz0, hz1, hz2⟩ := info_partsD info_dartD
  clear h hr
  go_enter Tryz.func100, Tryz.ntmps100
  go_upto_region 2 with fail
  have hx0 : Whole (w.alloc (.cells #[.slice A n c, .slice B m k] 25)) (w.heap.size) 25 [.slice A n c, .slice B m k] := (Whole.new_ w 25 [.slice A n c, .slice B m k])
  have hbl : Below w.heap.size w (w.alloc (.cells #[.slice A n c, .slice B m k] 25)) := (below1 w (.cells #[.slice A n c, .slice B m k] 25))
  have hsz : w.heap.size + 1 ≤ ((w.alloc (.cells #[.slice A n c, .slice B m k] 25))).heap.size := by simp
  obtain ⟨W0, gW0⟩ : ∃ z, (w.alloc (.cells #[.slice A n c, .slice B m k] 25)) = z := ⟨_, rfl⟩
  rw [gW0] at hx0 hbl hsz
  obtain ⟨b0, gb0⟩ : ∃ z, w.heap.size = z := ⟨_, rfl⟩
  rw [gb0] at hx0
  have HX0 := Lib.hid hx0
  have HB0 := Lib.hid hbl
  have HS0 := Lib.hid hsz
  have Gb0 := Lib.hid gb0
  have Lb0 : RowKit.Hid (w.heap.size ≤ b0) := Lib.hid (by omega)
  rw [gW0, gb0]
  clear gW0 hbl hsz hx0 gb0
  have HO0 : RowKit.Hid (Ow w (b0 + 1) 49 3 (.slice none 0 0) (dsV (Vs.take 0)).length (dartsV (dsV (Vs.take 0))) W0) := Lib.hid (Ow.nil_ HB0.out (by have := Gb0.out; omega) (by have := HS0.out; have := Gb0.out; omega))
  have c0 := HX0.out.cell (i := 0) rfl
  have HGb := Gb0
  go_wp2
  clear c0
  go_loopw [3, 9] (fun v si wr => ∃ j : Nat, j ≤ n ∧ si = .int .i64 j ∧ RowKit.Hid (Ow w (b0 + 1) 49 3 v (dsV (Vs.take j)).length (dartsV (dsV (Vs.take j))) wr)) (fun _ si _ => n - (intOf si).toNat)
  case atStart => exact ⟨0, by omega, rfl, HO0⟩
  case round =>
    clear HO0
    obtain ⟨j, hj, rfl, HO⟩ := hrel
    obtain ⟨wo, gwo⟩ : ∃ z, wr = z := ⟨_, rfl⟩
    rw [gwo] at HO ⊢
    clear gwo
    by_cases hjn : j < n
    · obtain ⟨v, hx⟩ : ∃ v, Vs[j]? = some v := ⟨_, List.getElem?_eq_getElem (by have := Hlv.out; omega)⟩
      have hnx := dsV_next Vs j v hx
      have hvm := List.mem_of_getElem? hx
      have hrg := HRg.out v hvm
      have hrn := Hhr.out v hvm
      have hbd : (dsV (Vs.take j)).length ≤ j * 1000000 := by
        have q := dsV_len (Vs.take j) (fun x hx => by have q1 := Hhr.out x (List.mem_of_mem_take hx); have q2 := (HRg.out x (List.mem_of_mem_take hx)).2.dlen; omega)
        rw [List.length_take] at q
        exact Nat.le_trans q (Nat.mul_le_mul_right _ (Nat.min_le_left _ _))
      obtain ⟨bb, off, rfl, hbB, hpl⟩ := HV.out.place vC_len (by decide) (by omega)
      have HBo : RowKit.Hid (Below w.heap.size w wo) := Lib.hid HO.out.below
      have hbw := HBo.out
      have q0 := hpl j _ hx 0 _ rfl
      have q1 := hpl j _ hx 1 _ rfl
      have q2 := hpl j _ hx 2 _ rfl
      have q3 := hpl j _ hx 3 _ rfl
      have q4 := hpl j _ hx 4 _ rfl
      simp only [Addr.add_lit, Nat.add_zero] at q0 q1 q2 q3 q4
      have l0 := (hbw.cell (p := ⟨bb, off + j * 5, none⟩) hbB).trans q0
      have l1 := (hbw.cell (p := ⟨bb, off + j * 5 + 1, none⟩) hbB).trans q1
      have l2 := (hbw.cell (p := ⟨bb, off + j * 5 + 2, none⟩) hbB).trans q2
      have l3 := (hbw.cell (p := ⟨bb, off + j * 5 + 3, none⟩) hbB).trans q3
      have l4 := (hbw.cell (p := ⟨bb, off + j * 5 + 4, none⟩) hbB).trans q4
      clear hbw q0 q1 q2 q3 q4
      obtain ⟨⟨i1, i2⟩, ⟨rA, rn, rc, rL⟩, lb, at_⟩ := v
      replace hrn : rn ≤ 1000000 := hrn
      have HR : RowKit.Hid (RdS w w.heap.size 3 rA rn rc (dartsV rL)) := Lib.hid hrg.2
      have hlr : rL.length = rn := HR.out.dlen
      have HNx := Lib.hid hnx
      have hln : (dsV (Vs.take (j + 1))).length = (dsV (Vs.take j)).length + rn := by rw [hnx, List.length_append]; show _ + rL.length = _; rw [hlr]
      have HLn := Lib.hid hln
      have HL1 := Lib.hid hlr
      obtain ⟨s, gs⟩ : ∃ z, (dsV (Vs.take j)).length = z := ⟨_, rfl⟩
      rw [gs] at HO hbd HLn
      clear hx hpl hbB hnx hln gs hrg hlr
      go_wp2_with (first
        | (at_builtin
           refine wpList_push2 rfl (.tmp 13) (.tmp 15) _ rfl _ 49 i0 _ 3 24 Tryz.underlying45 hi hz0 hz1 hz2 rfl (by decide) _ _ _ rfl (by exact HO.out.up (below1 _ _)) w.heap.size rA rn rc (dartsV rL) rfl (by exact (HR.out.up (bel_al HBo.out _) (Nat.le_refl _))) (dartsV_one rL) (by unfold maxLen; omega) (by omega) ?_
           intro v1 w1 how1 hb1 hgr
           have HO1 : RowKit.Hid (Ow w (b0 + 1) 49 3 v1 (dsV (Vs.take (j + 1))).length (dartsV (dsV (Vs.take (j + 1)))) w1) := Lib.hid (by
             rw [HLn.out, HNx.out, dartsV_app]
             exact how1)
           clear how1 hb1 hgr))
      go_roundw
      case rel => exact ⟨j + 1, by omega, by go_num, HO1⟩
      case measure => simp [intOf] <;> omega
    · obtain rfl : n = j := by omega
      have ho := HO.out
      rw [List.take_of_length_le (by have := Hlv.out; omega)] at ho
      have hbd : (dsV Vs).length ≤ n * 1000000 := by
        have q := dsV_len Vs (fun x hx => by have q1 := Hhr.out x hx; have q2 := (HRg.out x hx).2.dlen; omega)
        rw [Hlv.out] at q
        exact q
      obtain ⟨A', c', rfl, -⟩ := ho.rds
      have HSo := Lib.hid (sortD_any (dsV Vs) _ _ _ A' wo ho.own (by omega))
      have HBo := Lib.hid ho.below
      have hlt := ho.own.lt
      have Hlt : RowKit.Hid (∀ g, (Value.slice A' (dsV Vs).length c').ownBlock = some g → w.heap.size ≤ g) := Lib.hid (fun g e => by have := (hlt g e).1; have := Gb0.out; omega)
      have HFin : RowKit.Hid (b0 + 1 = w.heap.size + 1) := Lib.hid (by rw [← Gb0.out])
      clear HO ho hlt
      go_wp2_with (go_at_call 105; refine HSo.out.mono ?_; rintro e w' ⟨rfl, h1, h2⟩; have H1 := Lib.hid h1; have H2 := Lib.hid h2; clear h1 h2)
      go_ret
      exact ⟨A', c', rfl, by rw [← HFin.out]; exact H1.out, HBo.out.grown H2.out HBo.out.size (fun g e => Hlt.out g e)⟩
end Go.Proofs.YtmkflebkifbpfaaGreat
