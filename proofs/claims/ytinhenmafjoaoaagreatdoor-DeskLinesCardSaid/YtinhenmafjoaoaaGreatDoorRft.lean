/- A range over a function whose iterator keeps one variable of its own in a block. -/
import Derived.RangeFuncNested
import Derived.RangeFuncBound
import Derived.RangeFuncCalls
import Derived.RangeFuncLeaves
import Derived.WalkKit
import Derived.OwnWalkIn
namespace Go.Proofs.YtinhenmafjoaoaaGreatDoor
set_option linter.unusedVariables false
open Go.RowKit

/-- What a round keeps: the blocks of K. -/
structure KpS (K : Nat → Prop) (W W' : World) : Prop where
  size : W.heap.size ≤ W'.heap.size
  same : ∀ i, i < W.heap.size → K i → W'.heap[i]? = W.heap[i]?
theorem KpS.refl (K : Nat → Prop) (W : World) : KpS K W W := ⟨Nat.le_refl _, fun _ _ _ => rfl⟩
theorem KpS.trans {K : Nat → Prop} {A B C : World} (h : KpS K A B) (k : KpS K B C) : KpS K A C :=
  ⟨Nat.le_trans h.size k.size, fun i hi hk => (k.same i (Nat.lt_of_lt_of_le hi h.size) hk).trans (h.same i hi hk)⟩
theorem KpS.grown {K : Nat → Prop} {W W' : World} {row : Option Nat} (h : W.grownBy W' row) (hr : ∀ r, row = some r → ¬ K r) : KpS K W W' :=
  ⟨h.size, fun i hi hk => h.block i hi (fun e => hr i e.symm hk)⟩
theorem KpS.below {K : Nat → Prop} {n₀ : Nat} {W W' : World} (h : KpS K W W') : W.heap.size ≤ W'.heap.size := h.size

/-- It abides new blocks, and turns of those of T. -/
def AbS (T : Nat → Prop) (I : World → Prop) : Prop := ∀ W W' r, I W → W.grownBy W' r → (∀ q, r = some q → T q) → I W'
theorem AbS.al {T : Nat → Prop} {I : World → Prop} (h : AbS T I) {W : World} (hi : I W) (o : Obj) : I (W.alloc o) :=
  h W _ none hi (World.grownBy_alloc W o none) (fun _ e => by cases e)
theorem AbS.po {T : Nat → Prop} {I : World → Prop} (h : AbS T I) {W : World} (hi : I W) (r : Nat) (o : Obj) (h1 : T r) : I (W.putObj r o) :=
  h W _ (some r) hi (grownBy_putObj' W r o) (fun q e => by cases e; exact h1)
theorem AbS.sc {T : Nat → Prop} {I : World → Prop} (h : AbS T I) {W : World} (hi : I W) (r : Nat) (v : Value) (h1 : T r) : I (W.setCell ⟨r, 0, none⟩ v) :=
  h W _ (some r) hi (grownBy_setCell' W r v) (fun q e => by cases e; exact h1)
theorem AbS.sub {T T' : Nat → Prop} {I : World → Prop} (h : AbS T I) (ht : ∀ q, T' q → T q) : AbS T' I := fun W W' r hi hg hr => h W W' r hi hg (fun q e => ht q (hr q e))

/-- An iterator over L, called in W: it turns blocks of T alone; a round keeps those of K. -/
def ItS {α : Type} (P : Program) (g : Nat) (lb : Array Value) (encs : List α → α → Array Value) (K T : Nat → Prop) (L : List α) (W : World) : Prop :=
  ∀ (l : Nat) (J Jx : List α → World → Prop), (∀ p, AbS T (J p)) → (∀ p, AbS T (Jx p)) →
    (∀ pre x W1, J pre W1 → pre ++ [x] <+: L → W.heap.size ≤ W1.heap.size → (∀ i, T i → i < W1.heap.size) → YieldAt Fence.wide 0 P l (encs pre x) W1 fun e W' =>
      (e = .returned (.bool true) ∧ J (pre ++ [x]) W' ∧ KpS K W1 W') ∨ (e = .returned (.bool false) ∧ Jx (pre ++ [x]) W' ∧ KpS K W1 W')) →
    J [] W →
    CallsIn Fence.wide 0 P g (#[.func (.yield l) #[] #[]] ++ lb) W fun e W' => (∃ v, e = .returned v) ∧ (J L W' ∨ (∃ pre, pre <+: L ∧ Jx pre W'))

/-- How a round's body may be left. -/
def postS {α : Type} (K : Nat → Prop) (I : List α → World → Prop) (Ix : Code → List α → World → Prop) (xs : List α) (W : World) : Exit → Act → World → Prop
  | .normal, _, W' => KpS K W W' ∧ I xs W'
  | .ret, _, W' => KpS K W W' ∧ Ix .ret xs W'
  | .exit id, _, W' => KpS K W W' ∧ Ix (.exit id) xs W'
  | .goto t, _, W' => KpS K W W' ∧ Ix (.goto t) xs W'
  | .panic _, _, _ => False
  | .outgrown, _, _ => False

theorem kpS_po {K : Nat → Prop} {W : World} {l : Nat} {o : Obj} (o' : Obj) (h : ¬ K l) : KpS K W (W.putObj l o') :=
  KpS.grown (grownBy_putObj' W l o') (fun r e => by cases e; exact h)

variable {P : Program}
theorem wpIn_roundS {α : Type} {g : Operand} {ps : Array Tmp} {assign body : Code} {Q : Exit → Act → World → Prop} {a : Act} {w : World}
    {gf : Nat} {lb : Array Value} (hg : a.eval g = .func (.func gf) #[] lb) (eg : ∀ args w, (callFunc gf args).run P w = .ok (.enter gf args) w)
    {encs : List α → α → Array Value} (hps : ∀ p x, (encs p x).size = ps.size) (K T : Nat → Prop) {L : List α} (hnk1 : ¬ K (w.heap.size + 1)) (hnt : ¬ T w.heap.size ∧ ¬ T (w.heap.size + 1))
    (hit : ∀ r, ItS P gf lb encs K T L ((w.alloc (.deferred (some []))).alloc (.loop r)))
    (I : List α → World → Prop) (I1 : List α → α → Act → World → Prop) (Ix : Code → List α → World → Prop) (hI : ∀ p, AbS (fun i => T i ∨ i = w.heap.size ∨ i = w.heap.size + 1) (I p)) (hI1 : ∀ p x a', AbS (fun i => i = w.heap.size + 1) (I1 p x a')) (hIx : ∀ c p, AbS (fun i => T i ∨ i = w.heap.size ∨ i = w.heap.size + 1) (Ix c p)) (h0 : I [] w)
    (hassign : ∀ (l : Nat) (pre : List α) (x : α) (W : World) (R : Act → World → Prop), I pre W → pre ++ [x] <+: L → w.heap.size + 2 ≤ W.heap.size → (∀ i, T i → i < W.heap.size) → (∀ a' W', KpS (fun i => K i ∨ i = w.heap.size ∨ i = w.heap.size + 1) W W' → I1 pre x a' W' → R a' W') →
      assign.wpIn (Fence.wide.inRound l) 0 P (Exit.then R (fun _ _ _ => False)) { tmps := (ps.zip (encs pre x)).foldl (fun t (p, v) => t.setIfInBounds p v) a.tmps, defers := [] } W)
    (hbody : ∀ (l : Nat) (pre : List α) (x : α) (a' : Act) (W : World), I1 pre x a' W → pre ++ [x] <+: L → w.heap.size + 2 ≤ W.heap.size → (∀ i, T i → i < W.heap.size) →
      body.wpIn (Fence.wide.inRound l) 0 P (postS (fun i => K i ∨ i = w.heap.size ∨ i = w.heap.size + 1) I Ix (pre ++ [x]) W) a' W)
    (hdone : ∀ (W : World), I L W → W.heap[w.heap.size]? = some (.deferred (some [])) → Q .normal { a with defers := { target := .collected w.heap.size, args := #[] } :: a.defers } W)
    (hstop : ∀ (c : Code) (pre : List α) (W : World), pre <+: L → Ix c pre W → W.heap[w.heap.size]? = some (.deferred (some [])) → c.wpIn Fence.wide 0 P Q { a with defers := { target := .collected w.heap.size, args := #[] } :: a.defers } W) :
    (Code.rangeFunc g ps assign body).wpIn Fence.wide 0 P Q a w := by
  refine wpIn_rangeFunc fun fn hfn => ?_
  obtain ⟨rc, hrc⟩ : ∃ rc : LoopState → Option Code → Loop, rc = fun st pe => { state := st, pending := pe, fn, tmps := a.tmps, params := ps, assign, body, defers := w.heap.size } := ⟨_, rfl⟩
  obtain ⟨W1, hW1⟩ : ∃ z, (w.alloc (.deferred (some []))).alloc (.loop (rc .ready none)) = z := ⟨_, rfl⟩
  obtain ⟨b, hb⟩ : ∃ z, w.heap.size = z := ⟨_, rfl⟩
  have hs1 : W1.heap.size = b + 2 := by rw [← hW1, World.size_alloc, World.size_alloc, hb]
  have hl1 : W1.heap[b + 1]? = some (.loop (rc .ready none)) := by
    rw [← hW1, ← hb]; have := World.alloc_heap_new (w.alloc (.deferred (some []))) (.loop (rc .ready none)); rwa [World.size_alloc] at this
  have hd1 : W1.heap[b]? = some (.deferred (some [])) := by
    rw [← hW1, ← hb]; exact (Below.heap_alloc _ _ _ (by simp)).trans (World.alloc_heap_new w _)
  have hi1 : I [] W1 := by rw [← hW1]; exact (hI []).al ((hI []).al h0 _) _
  have hit1 := hit (rc .ready none)
  rw [hW1] at hit1
  rw [hb] at hnk1 hnt hI hI1 hIx hassign hbody hdone hstop
  have hrun : (Instr.enterLoop fn a.tmps ps assign body none).run P w = .ok (b + 1, [{ target := .collected b, args := #[] }]) W1 := by
    rw [← hW1, hrc, ← hb]; exact run_enterLoop_outer _ _ _ _ _
  clear hW1 h0 hit
  refine ⟨b + 1, [{ target := .collected b, args := #[] }], W1, { target := .fn (.func gf) lb, args := #[.func (.yield (b + 1)) #[] #[]] }, W1, gf, #[.func (.yield (b + 1)) #[] #[]] ++ lb, W1, hrun, ?_, fun _ _ => trivial, ?_, fun h => (by cases h), ?_⟩
  · simp only [resolve, hg]
    simp [go_sem]
  · simp [invoke, go_sem, eg]
  refine (hit1 (b + 1)
    (fun p W => I p W ∧ W.heap[b + 1]? = some (.loop (rc .ready none)) ∧ W.heap[b]? = some (.deferred (some [])))
    (fun p W => ∃ c, Ix c p W ∧ W.heap[b + 1]? = some (.loop (rc .done (some c))) ∧ W.heap[b]? = some (.deferred (some [])))
    (fun p A B r h hgr hrT => ?_) (fun p A B r h hgr hrT => ?_) ?_ ⟨hi1, hl1, hd1⟩).mono ?_
  · have hx := fun (i : Nat) (o : Obj) (hi : ¬ T i) (ho : A.heap[i]? = some o) => (hgr.block i (Array.getElem?_eq_some_iff.1 ho).1 (fun e => hi (hrT i e.symm))).trans ho
    exact ⟨hI p A B _ h.1 hgr (fun q e => .inl (hrT q e)), hx _ _ hnt.2 h.2.1, hx _ _ hnt.1 h.2.2⟩
  · have hx := fun (i : Nat) (o : Obj) (hi : ¬ T i) (ho : A.heap[i]? = some o) => (hgr.block i (Array.getElem?_eq_some_iff.1 ho).1 (fun e => hi (hrT i e.symm))).trans ho
    obtain ⟨c, h1, h2, h3⟩ := h
    exact ⟨c, hIx c p A B _ h1 hgr (fun q e => .inl (hrT q e)), hx _ _ hnt.2 h2, hx _ _ hnt.1 h3⟩
  · rintro pre x W ⟨hi, hl, hd⟩ hlen hsz hTs
    rw [hs1] at hsz
    have hy := run_yield (P := P) (args := encs pre x) hl (by rw [hrc]; exact hps pre x)
    rw [hrc] at hy
    refine ⟨fn, _, assign, body, hy, roundIn_of_wpIn hfn (hassign _ pre x W _ hi hlen (by omega) hTs ?_)⟩
    intro a' Wa hka ha
    replace hl := (hka.same _ (Array.getElem?_eq_some_iff.1 hl).1 (.inr (.inr rfl))).trans hl
    replace hd := (hka.same _ (Array.getElem?_eq_some_iff.1 hd).1 (.inr (.inl rfl))).trans hd
    have hlt := (Array.getElem?_eq_some_iff.1 hl).1
    refine ⟨_, run_beginRound hl (by rw [hrc]), ?_⟩
    obtain ⟨Wb, hWb⟩ : ∃ z, Wa.putObj (b + 1) (.loop { rc .ready none with state := .busy }) = z := ⟨_, rfl⟩
    have hlb : Wb.heap[b + 1]? = some (.loop { rc .ready none with state := .busy }) := by rw [← hWb]; exact World.putObj_heap_same hlt
    have hdb : Wb.heap[b]? = some (.deferred (some [])) := by rw [← hWb]; exact (World.putObj_heap_other (by omega)).trans hd
    have hkb : KpS K Wa Wb := by rw [← hWb]; exact KpS.grown (grownBy_putObj' _ _ _) (fun r e => by cases e; exact hnk1)
    have hab : I1 pre x a' Wb := by rw [← hWb]; exact (hI1 pre x a').po ha _ _ rfl
    rw [hWb]
    clear hWb
    have hka' : KpS K W Wa := ⟨hka.size, fun i h1 h2 => hka.same i h1 (.inl h2)⟩
    have fin : ∀ (jump : Option Code) (W3 : World), KpS (fun i => K i ∨ i = b ∨ i = b + 1) Wb W3 →
        (Instr.endRound (b + 1) jump).run P W3 = .ok (.bool jump.isNone) (W3.putObj (b + 1) (.loop (rc (if jump.isNone then .ready else .done) jump))) ∧
        (W3.putObj (b + 1) (.loop (rc (if jump.isNone then .ready else .done) jump))).heap[b + 1]? = some (.loop (rc (if jump.isNone then .ready else .done) jump)) ∧
        (W3.putObj (b + 1) (.loop (rc (if jump.isNone then .ready else .done) jump))).heap[b]? = some (.deferred (some [])) ∧
        KpS K W (W3.putObj (b + 1) (.loop (rc (if jump.isNone then .ready else .done) jump))) := fun jump W3 hk3 => by
      have hl3 := (hk3.same _ (Array.getElem?_eq_some_iff.1 hlb).1 (.inr (.inr rfl))).trans hlb
      have hd3 := (hk3.same _ (Array.getElem?_eq_some_iff.1 hdb).1 (.inr (.inl rfl))).trans hdb
      have he := run_endRound (P := P) jump hl3
      rw [hrc] at he ⊢
      exact ⟨he, World.putObj_heap_same (Array.getElem?_eq_some_iff.1 hl3).1, (World.putObj_heap_other (by omega)).trans hd3,
        hka'.trans (hkb.trans (KpS.trans ⟨hk3.size, fun i h1 h2 => hk3.same i h1 (.inl h2)⟩ (KpS.grown (grownBy_putObj' _ _ _) (fun r e => by cases e; exact hnk1))))⟩
    refine wpIn_mono (hbody _ pre x a' Wb hab hlen (by have h1 := hka.size; have h2 := hkb.size; omega) (fun i hi => by have h1 := hka.size; have h2 := hkb.size; have h3 := hTs i hi; omega)) ?_
    rintro e a3 W3 hp
    cases e with
    | normal =>
      obtain ⟨h1, h2, h3, h4⟩ := fin none W3 hp.1
      exact ⟨_, _, h1, .inl ⟨rfl, ⟨(hI _).po hp.2 _ _ (.inr (.inr rfl)), h2, h3⟩, h4⟩⟩
    | ret =>
      obtain ⟨h1, h2, h3, h4⟩ := fin (some .ret) W3 hp.1
      exact ⟨_, _, h1, .inr ⟨rfl, ⟨.ret, (hIx _ _).po hp.2 _ _ (.inr (.inr rfl)), h2, h3⟩, h4⟩⟩
    | exit id =>
      obtain ⟨h1, h2, h3, h4⟩ := fin (some (.exit id)) W3 hp.1
      exact ⟨_, _, h1, .inr ⟨rfl, ⟨.exit id, (hIx _ _).po hp.2 _ _ (.inr (.inr rfl)), h2, h3⟩, h4⟩⟩
    | goto t =>
      obtain ⟨h1, h2, h3, h4⟩ := fin (some (.goto t)) W3 hp.1
      exact ⟨_, _, h1, .inr ⟨rfl, ⟨.goto t, (hIx _ _).po hp.2 _ _ (.inr (.inr rfl)), h2, h3⟩, h4⟩⟩
    | panic ch => exact hp.elim
    | outgrown => exact hp.elim
  · rintro e W2 ⟨⟨v, rfl⟩, ⟨hi, hl, hd⟩ | ⟨pre, hSp, c, hi, hl, hd⟩⟩
    · have he := run_endLoop (P := P) hl (by rw [hrc]; simp)
      refine ⟨none, _, by rw [hrc] at he; exact he, hdone _ ((hI _).po hi _ _ (.inr (.inr rfl))) ((World.putObj_heap_other (by omega)).trans hd)⟩
    · have he := run_endLoop (P := P) hl (by rw [hrc]; simp)
      refine ⟨some c, _, by rw [hrc] at he; exact he, hstop c pre _ hSp ((hIx _ _).po hi _ _ (.inr (.inr rfl))) ((World.putObj_heap_other (by omega)).trans hd)⟩

theorem RoundIn.inRound {F : Fence} {n : Nat} {P : Program} {l : Nat} {f : FuncId} {tmps : Array Value} {assign body : Code} {w : World} {R : Ending → World → Prop} (l' : Nat)
    (h : RoundIn F n P l f tmps assign body w R) : RoundIn (F.inRound l') n P l f tmps assign body w R := h
end Go.Proofs.YtinhenmafjoaoaaGreatDoor
