/- Several texts in one. -/
import Derived.Test.YtahbfdhjgnlmdaaZLA
import Derived.RangeFuncNested
import Derived.RangeFuncBound
import Derived.RangeFuncCalls
import Derived.RangeFuncLeaves
import Derived.WalkKit
import Derived.OwnWalkIn
import Derived.Deep.QuietTactic
import Derived.BigQuiet
import Derived.LoopTactic
import Derived.Outline
import Derived.Laws.RangeString
import Derived.Laws.RangeAny
import Derived.Maps.OwnSet
import Derived.Deep.MidRow
import Derived.Deep.CutBlock
import Derived.DeepKeys4
import Derived.Laws.ResultCell

/- Two places of a permutation are swapped: one orbit becomes two, or two become one. -/
namespace Go.Proofs.Ytahbfdhjgnlmdaa
open Go.RowKit
set_option linter.unusedSimpArgs false
set_option linter.unusedVariables false
set_option linter.unusedSectionVars false
section
variable {α : Type} [DecidableEq α] {f f' : α → α} {L P : List α}
theorem swap_orbs (h : Pm f L) (h' : Pm f' L) {a b : α} (ha : a ∈ L) (hb : b ∈ L) (hab : a ≠ b) (fa : f' a = f b) (fb : f' b = f a) (fz : ∀ z ∈ L, z ≠ a → z ≠ b → f' z = f z) (hP : Reps f L P) :
    ∃ P', Reps f' L P' ∧ (Rl f a b → P'.length = P.length + 1) ∧ (¬ Rl f a b → P'.length + 1 = P.length) := by
  obtain ⟨p, hp, _⟩ := h.per hb
  obtain ⟨q, hq, _⟩ := h.per ha
  obtain ⟨rb, hrb, rrb⟩ := hP.all b hb
  obtain ⟨ra, hra, rra⟩ := hP.all a ha
  have hno : ∀ {x}, x ∈ P → x ≠ ra → ¬ Rl f x a := fun {x} hx hne r => hne (hP.one x hx ra hra (r.trans (rra.symm h (hP.sub ra hra))))
  have hno2 : ∀ {x}, x ∈ P → x ≠ rb → ¬ Rl f x b := fun {x} hx hne r => hne (hP.one x hx rb hrb (r.trans (rrb.symm h (hP.sub rb hrb))))
  have out0 : ∀ {x}, x ∈ L → ¬ Rl f x a → ¬ Rl f x b → ¬ Rl f' x a := fun {x} hx h1 h2 r => h1 ((rl_same h fz hx h1 h2 a).1 r)
  have out1 : ∀ {x}, x ∈ L → ¬ Rl f x a → ¬ Rl f x b → ¬ Rl f' x b := fun {x} hx h1 h2 r => h2 ((rl_same h fz hx h1 h2 b).1 r)
  by_cases hs : Rl f a b
  · have hsb := hs.symm h ha
    have erab : rb = ra := hP.one rb hrb ra hra (rrb.trans (hsb.trans (rra.symm h (hP.sub ra hra))))
    obtain ⟨k, ⟨k1, k2⟩, k3⟩ := least (p := fun i => 0 < i ∧ itN f i b = a) (by
      obtain ⟨i, i1, _, i2⟩ := hp.up hsb
      exact ⟨i, i1, i2⟩)
    have hkp : k < p := by
      obtain ⟨i, i1, i2, i3⟩ := hp.up hsb
      have : ¬ i < k := fun q => k3 i q ⟨i1, i3⟩
      have : i ≠ p := fun e => hab (by rw [← i3, e, hp.back])
      omega
    have hpa : IsPer f a p := k2 ▸ hp.shift h hb k
    have r0 : ∀ i, 0 < i → i ≤ k → Rl f' a (itN f i b) := fun i i1 i2 => reach h fz fa hb i (fun j j1 j2 => ⟨fun e => k3 j (by omega) ⟨j1, e⟩, hp.ne j j1 (by omega)⟩) i1
    have eka : ∀ j, itN f j a = itN f (k + j) b := fun j => by rw [it_add, k2]
    have r1 : ∀ i, 0 < i → i ≤ p - k → Rl f' b (itN f i a) := fun i i1 i2 => reach h fz fb ha i (fun j j1 j2 => ⟨hpa.ne j j1 (by omega), fun e => hp.ne (k + j) (by omega) (by omega) (by rw [← eka, e])⟩) i1
    have cl : ∀ j, ∃ i, 0 < i ∧ i ≤ k ∧ itN f' j a = itN f i b := fun j => by
      induction j with
      | zero => exact ⟨k, k1, Nat.le_refl _, k2.symm⟩
      | succ j ih =>
        rw [it_succ]
        obtain ⟨i, i1, i2, e⟩ := ih
        rw [e]
        by_cases q : i = k
        · rw [q, k2, fa]
          exact ⟨1, by omega, by omega, rfl⟩
        · refine ⟨i + 1, by omega, by omega, ?_⟩
          rw [it_succ, fz _ (h.it hb i) (fun e => k3 i (by omega) ⟨i1, e⟩) (hp.ne i i1 (by omega))]
    have n01 : ¬ Rl f' a b := by
      rintro ⟨j, e⟩
      obtain ⟨i, i1, i2, q⟩ := cl j
      exact hp.ne i i1 (by omega) (q.symm.trans e)
    have n10 : ¬ Rl f' b a := fun r => n01 (r.symm h' hb)
    have hme : ∀ x, x ∈ P.erase ra ↔ x ≠ ra ∧ x ∈ P := fun x => hP.nd.mem_erase_iff
    have hnn : ∀ {x}, x ∈ P → x ≠ ra → ¬ Rl f x a ∧ ¬ Rl f x b := fun {x} hx hne => ⟨hno hx hne, hno2 hx (erab ▸ hne)⟩
    have e0 : a ∉ P.erase ra := fun m => (hnn ((hme _).1 m).2 ((hme _).1 m).1).1 (Rl.refl a)
    have e1 : b ∉ P.erase ra := fun m => (hnn ((hme _).1 m).2 ((hme _).1 m).1).2 (Rl.refl b)
    refine ⟨a :: b :: P.erase ra, ⟨?_, ?_, ?_, ?_⟩, fun _ => ?_, fun q => (q hs).elim⟩
    · rw [List.nodup_cons, List.nodup_cons]
      exact ⟨fun m => (List.mem_cons.1 m).elim hab e0, e1, hP.nd.erase _⟩
    · intro x hx
      rcases List.mem_cons.1 hx with rfl | hx
      · exact ha
      rcases List.mem_cons.1 hx with rfl | hx
      · exact hb
      · exact hP.sub _ ((hme _).1 hx).2
    · intro x hx
      by_cases hxb : Rl f b x
      · obtain ⟨i, i1, i2, rfl⟩ := hp.up hxb
        by_cases q : i ≤ k
        · exact ⟨a, List.mem_cons_self .., r0 i i1 q⟩
        · refine ⟨b, List.mem_cons_of_mem _ (List.mem_cons_self ..), ?_⟩
          have := r1 (i - k) (by omega) (by omega)
          rwa [eka, show k + (i - k) = i by omega] at this
      · obtain ⟨y, hy, r⟩ := hP.all x hx
        have hne : y ≠ ra := fun e => hxb (by
          rw [e] at r
          exact (hsb.trans (rra.symm h (hP.sub ra hra))).trans r)
        refine ⟨y, List.mem_cons_of_mem _ (List.mem_cons_of_mem _ ((hme _).2 ⟨hne, hy⟩)), ?_⟩
        exact (rl_same h fz (hP.sub y hy) (hnn hy hne).1 (hnn hy hne).2 x).2 r
    · have old : ∀ x ∈ P.erase ra, ∀ y, (y = a ∨ y = b) → ¬ Rl f' x y := fun x hx y hy => by
        obtain ⟨hne, hxP⟩ := (hme x).1 hx
        rcases hy with rfl | rfl
        · exact out0 (hP.sub x hxP) (hnn hxP hne).1 (hnn hxP hne).2
        · exact out1 (hP.sub x hxP) (hnn hxP hne).1 (hnn hxP hne).2
      have old2 : ∀ x ∈ P.erase ra, ∀ y, (y = a ∨ y = b) → ¬ Rl f' y x := fun x hx y hy r =>
        old x hx y hy (r.symm h' (by rcases hy with rfl | rfl <;> assumption))
      intro x hx y hy r
      rcases List.mem_cons.1 hx with ex | hx
      · rcases List.mem_cons.1 hy with ey | hy
        · rw [ex, ey]
        rcases List.mem_cons.1 hy with ey | hy
        · exact (n01 (ex ▸ ey ▸ r)).elim
        · exact (old2 y hy x (.inl ex) r).elim
      rcases List.mem_cons.1 hx with ex | hx
      · rcases List.mem_cons.1 hy with ey | hy
        · exact (n10 (ex ▸ ey ▸ r)).elim
        rcases List.mem_cons.1 hy with ey | hy
        · rw [ex, ey]
        · exact (old2 y hy x (.inr ex) r).elim
      · rcases List.mem_cons.1 hy with ey | hy
        · exact (old x hx y (.inl ey) r).elim
        rcases List.mem_cons.1 hy with ey | hy
        · exact (old x hx y (.inr ey) r).elim
        · obtain ⟨hne, hxP⟩ := (hme x).1 hx
          exact hP.one x hxP y ((hme y).1 hy).2 ((rl_same h fz (hP.sub x hxP) (hnn hxP hne).1 (hnn hxP hne).2 y).1 r)
    · have hl1 := List.length_erase_of_mem hra
      have := List.length_pos_of_mem hra
      simp only [List.length_cons]
      omega
  · have hsb : ¬ Rl f b a := fun r => hs (r.symm h hb)
    have hne : rb ≠ ra := fun e => hs ((rra.symm h (hP.sub ra hra)).trans (e ▸ rrb))
    have r0 : ∀ i, 0 < i → i ≤ p → Rl f' a (itN f i b) := fun i i1 i2 => reach h fz fa hb i (fun j j1 j2 => ⟨fun e => hsb ⟨j, e⟩, hp.ne j j1 (by omega)⟩) i1
    have r1 : ∀ i, 0 < i → i ≤ q → Rl f' b (itN f i a) := fun i i1 i2 => reach h fz fb ha i (fun j j1 j2 => ⟨hq.ne j j1 (by omega), fun e => hs ⟨j, e⟩⟩) i1
    have r01 : Rl f' a b := by
      have := r0 p hp.pos (Nat.le_refl _)
      rwa [hp.back] at this
    have hmb : rb ∈ P.erase ra := hP.nd.mem_erase_iff.2 ⟨hne, hrb⟩
    have hme : ∀ x, x ∈ (P.erase ra).erase rb ↔ x ≠ rb ∧ x ≠ ra ∧ x ∈ P := fun x => by
      rw [(hP.nd.erase ra).mem_erase_iff, hP.nd.mem_erase_iff]
    have e0 : a ∉ (P.erase ra).erase rb := fun m => hno ((hme _).1 m).2.2 ((hme _).1 m).2.1 (Rl.refl a)
    refine ⟨a :: (P.erase ra).erase rb, ⟨?_, ?_, ?_, ?_⟩, fun q => (hs q).elim, fun _ => ?_⟩
    · rw [List.nodup_cons]
      exact ⟨e0, (hP.nd.erase _).erase _⟩
    · intro x hx
      rcases List.mem_cons.1 hx with rfl | hx
      · exact ha
      · exact hP.sub _ ((hme _).1 hx).2.2
    · intro x hx
      by_cases hxb : Rl f b x
      · obtain ⟨i, i1, i2, rfl⟩ := hp.up hxb
        exact ⟨a, List.mem_cons_self .., r0 i i1 i2⟩
      by_cases hxa : Rl f a x
      · obtain ⟨i, i1, i2, rfl⟩ := hq.up hxa
        exact ⟨a, List.mem_cons_self .., r01.trans (r1 i i1 i2)⟩
      · obtain ⟨y, hy, r⟩ := hP.all x hx
        have ne1 : y ≠ ra := fun e => hxa ((rra.symm h (hP.sub ra hra)).trans (e ▸ r))
        have ne2 : y ≠ rb := fun e => hxb ((rrb.symm h (hP.sub rb hrb)).trans (e ▸ r))
        exact ⟨y, List.mem_cons_of_mem _ ((hme _).2 ⟨ne2, ne1, hy⟩), (rl_same h fz (hP.sub y hy) (hno hy ne1) (hno2 hy ne2) x).2 r⟩
    · have old : ∀ x ∈ (P.erase ra).erase rb, ¬ Rl f' x a := fun x hx => by
        obtain ⟨ne2, ne1, hxP⟩ := (hme x).1 hx
        exact out0 (hP.sub x hxP) (hno hxP ne1) (hno2 hxP ne2)
      intro x hx y hy r
      rcases List.mem_cons.1 hx with ex | hx
      · rcases List.mem_cons.1 hy with ey | hy
        · rw [ex, ey]
        · exact (old y hy ((ex ▸ r).symm h' ha)).elim
      · rcases List.mem_cons.1 hy with ey | hy
        · exact (old x hx (ey ▸ r)).elim
        · obtain ⟨ne2, ne1, hxP⟩ := (hme x).1 hx
          exact hP.one x hxP y ((hme y).1 hy).2.2 ((rl_same h fz (hP.sub x hxP) (hno hxP ne1) (hno2 hxP ne2) y).1 r)
    · have hl1 := List.length_erase_of_mem hra
      have hl2 := List.length_erase_of_mem hmb
      have := List.length_pos_of_mem hmb
      have := List.length_pos_of_mem hra
      simp only [List.length_cons]
      omega
end
end Go.Proofs.Ytahbfdhjgnlmdaa

/- A range over a function whose iterator keeps one variable of its own in a block. -/
namespace Go.Proofs.Ytahbfdhjgnlmdaa
set_option linter.unusedVariables false
open Go.RowKit

/-- What a round keeps: the blocks of K. -/
structure KpS (K : Nat → Prop) (W W' : World) : Prop where
  size : W.heap.size ≤ W'.heap.size
  same : ∀ i, i < W.heap.size → K i → W'.heap[i]? = W.heap[i]?
theorem KpS.refl (K : Nat → Prop) (W : World) : KpS K W W := ⟨Nat.le_refl _, fun _ _ _ => rfl⟩
theorem KpS.trans {K : Nat → Prop} {A B C : World} (h : KpS K A B) (k : KpS K B C) : KpS K A C :=
  ⟨Nat.le_trans h.size k.size, fun i hi hk => (k.same i (Nat.lt_of_lt_of_le hi h.size) hk).trans (h.same i hi hk)⟩
theorem KpS.grown {K : Nat → Prop} {W W' : World} {row : Option Nat} (h : W.grownBy W' row) (hr : ∀ r, row = some r → ¬ K r) : KpS K W W' :=
  ⟨h.size, fun i hi hk => h.block i hi (fun e => hr i e.symm hk)⟩
theorem KpS.below {K : Nat → Prop} {n₀ : Nat} {W W' : World} (h : KpS K W W') : W.heap.size ≤ W'.heap.size := h.size

/-- It abides new blocks, and turns of those from b to b + 2. -/
def AbS (b : Nat) (I : World → Prop) : Prop := ∀ W W' r, I W → W.grownBy W' (some r) → b ≤ r → r ≤ b + 2 → I W'
/-- It abides new blocks, and turns of block B. -/
def AbI (B : Nat) (J : World → Prop) : Prop := ∀ W W', J W → W.grownBy W' (some B) → J W'
theorem grown_none {W W' : World} (h : W.grownBy W' none) (r : Nat) : W.grownBy W' (some r) := ⟨h.os, h.tape, h.output, h.size, fun k hk _ => h.block k hk (fun e => by cases e)⟩
theorem AbS.al {b : Nat} {I : World → Prop} (h : AbS b I) {W : World} (hi : I W) (o : Obj) : I (W.alloc o) :=
  h W _ b hi (grown_none (World.grownBy_alloc W o none) b) (Nat.le_refl _) (by omega)
theorem AbS.po {b : Nat} {I : World → Prop} (h : AbS b I) {W : World} (hi : I W) (r : Nat) (o : Obj) (h1 : b ≤ r) (h2 : r ≤ b + 2) : I (W.putObj r o) :=
  h W _ r hi (grownBy_putObj' W r o) h1 h2

/-- An iterator that keeps one variable of its own, called in W: the first block that it lays. -/
def ItS {α : Type} (P : Program) (g : Nat) (lb : Array Value) (encs : α → Array Value) (K : Nat → Prop) (S Sp : List α → Prop) (N : Nat) (W : World) : Prop :=
  ∀ (l : Nat) (J Jx : List α → World → Prop), (∀ p, AbI W.heap.size (J p)) → (∀ p, AbI W.heap.size (Jx p)) →
    (∀ pre x W1, J pre W1 → pre.length < N → W.heap.size < W1.heap.size → YieldAt Fence.wide 0 P l (encs x) W1 fun e W' =>
      (e = .returned (.bool true) ∧ J (pre ++ [x]) W' ∧ KpS K W1 W') ∨ (e = .returned (.bool false) ∧ Jx (pre ++ [x]) W')) →
    J [] W →
    CallsIn Fence.wide 0 P g (#[.func (.yield l) #[] #[]] ++ lb) W fun e W' => (∃ v, e = .returned v) ∧ ((∃ xs, S xs ∧ J xs W') ∨ (∃ pre, Sp pre ∧ Jx pre W'))

/-- How a round's body may be left. -/
def postS {α : Type} (K : Nat → Prop) (I : List α → World → Prop) (Ix : Code → List α → World → Prop) (xs : List α) (W : World) : Exit → Act → World → Prop
  | .normal, _, W' => KpS K W W' ∧ I xs W'
  | .ret, _, W' => KpS K W W' ∧ Ix .ret xs W'
  | .exit id, _, W' => KpS K W W' ∧ Ix (.exit id) xs W'
  | .goto t, _, W' => KpS K W W' ∧ Ix (.goto t) xs W'
  | .panic _, _, _ => False
  | .outgrown, _, _ => False

variable {P : Program}
theorem wpIn_roundS {α : Type} {g : Operand} {ps : Array Tmp} {assign body : Code} {Q : Exit → Act → World → Prop} {a : Act} {w : World}
    {gf : Nat} {lb : Array Value} (hg : a.eval g = .func (.func gf) #[] lb) (eg : ∀ args w, (callFunc gf args).run P w = .ok (.enter gf args) w)
    {encs : α → Array Value} (hps : ∀ x, (encs x).size = ps.size) (K : Nat → Prop) {S Sp : List α → Prop} {N : Nat} (hnk1 : ¬ K (w.heap.size + 1))
    (hit : ∀ r, ItS P gf lb encs K S Sp N ((w.alloc (.deferred (some []))).alloc (.loop r)))
    (I : List α → World → Prop) (I1 : List α → α → Act → World → Prop) (Ix : Code → List α → World → Prop) (hI : ∀ p, AbS w.heap.size (I p)) (hI1 : ∀ p x a', AbS w.heap.size (I1 p x a')) (hIx : ∀ c p, AbS w.heap.size (Ix c p)) (h0 : I [] w)
    (hassign : ∀ (l : Nat) (pre : List α) (x : α) (W : World) (R : Act → World → Prop), I pre W → w.heap.size + 3 ≤ W.heap.size → (∀ a' W', KpS (fun i => K i ∨ i = w.heap.size ∨ i = w.heap.size + 1) W W' → I1 pre x a' W' → R a' W') →
      assign.wpIn (Fence.wide.inRound l) 0 P (Exit.then R (fun _ _ _ => False)) { tmps := (ps.zip (encs x)).foldl (fun t (p, v) => t.setIfInBounds p v) a.tmps, defers := [] } W)
    (hbody : ∀ (l : Nat) (pre : List α) (x : α) (a' : Act) (W : World), I1 pre x a' W → pre.length < N → w.heap.size + 3 ≤ W.heap.size →
      body.wpIn (Fence.wide.inRound l) 0 P (postS (fun i => K i ∨ i = w.heap.size ∨ i = w.heap.size + 1) I Ix (pre ++ [x]) W) a' W)
    (hdone : ∀ (xs : List α) (W : World), S xs → I xs W → W.heap[w.heap.size]? = some (.deferred (some [])) → Q .normal { a with defers := { target := .collected w.heap.size, args := #[] } :: a.defers } W)
    (hstop : ∀ (c : Code) (pre : List α) (W : World), Sp pre → Ix c pre W → W.heap[w.heap.size]? = some (.deferred (some [])) → c.wpIn Fence.wide 0 P Q { a with defers := { target := .collected w.heap.size, args := #[] } :: a.defers } W) :
    (Code.rangeFunc g ps assign body).wpIn Fence.wide 0 P Q a w := by
  refine wpIn_rangeFunc fun fn hfn => ?_
  obtain ⟨rc, hrc⟩ : ∃ rc : LoopState → Option Code → Loop, rc = fun st pe => { state := st, pending := pe, fn, tmps := a.tmps, params := ps, assign, body, defers := w.heap.size } := ⟨_, rfl⟩
  obtain ⟨W1, hW1⟩ : ∃ z, (w.alloc (.deferred (some []))).alloc (.loop (rc .ready none)) = z := ⟨_, rfl⟩
  obtain ⟨b, hb⟩ : ∃ z, w.heap.size = z := ⟨_, rfl⟩
  have hs1 : W1.heap.size = b + 2 := by rw [← hW1, World.size_alloc, World.size_alloc, hb]
  have hl1 : W1.heap[b + 1]? = some (.loop (rc .ready none)) := by
    rw [← hW1, ← hb]; have := World.alloc_heap_new (w.alloc (.deferred (some []))) (.loop (rc .ready none)); rwa [World.size_alloc] at this
  have hd1 : W1.heap[b]? = some (.deferred (some [])) := by
    rw [← hW1, ← hb]; exact (Below.heap_alloc _ _ _ (by simp)).trans (World.alloc_heap_new w _)
  have hi1 : I [] W1 := by rw [← hW1]; exact (hI []).al ((hI []).al h0 _) _
  have hit1 := hit (rc .ready none)
  rw [hW1] at hit1
  rw [hb] at hnk1 hI hI1 hIx hassign hbody hdone hstop
  have hrun : (Instr.enterLoop fn a.tmps ps assign body none).run P w = .ok (b + 1, [{ target := .collected b, args := #[] }]) W1 := by
    rw [← hW1, hrc, ← hb]; exact run_enterLoop_outer _ _ _ _ _
  clear hW1 h0 hit
  refine ⟨b + 1, [{ target := .collected b, args := #[] }], W1, { target := .fn (.func gf) lb, args := #[.func (.yield (b + 1)) #[] #[]] }, W1, gf, #[.func (.yield (b + 1)) #[] #[]] ++ lb, W1, hrun, ?_, fun _ _ => trivial, ?_, fun h => (by cases h), ?_⟩
  · simp only [resolve, hg]
    simp [go_sem]
  · simp [invoke, go_sem, eg]
  refine (hit1 (b + 1)
    (fun p W => I p W ∧ W.heap[b + 1]? = some (.loop (rc .ready none)) ∧ W.heap[b]? = some (.deferred (some [])))
    (fun p W => ∃ c, Ix c p W ∧ W.heap[b + 1]? = some (.loop (rc .done (some c))) ∧ W.heap[b]? = some (.deferred (some [])))
    (fun p A B h hgr => ?_) (fun p A B h hgr => ?_) ?_ ⟨hi1, hl1, hd1⟩).mono ?_
  · have hx := fun (i : Nat) (o : Obj) (hi : i ≤ b + 1) (ho : A.heap[i]? = some o) => (hgr.block i (Array.getElem?_eq_some_iff.1 ho).1 (by rw [hs1]; intro e; cases e; omega)).trans ho
    exact ⟨hI p A B _ h.1 hgr (by omega) (by omega), hx _ _ (by omega) h.2.1, hx _ _ (by omega) h.2.2⟩
  · have hx := fun (i : Nat) (o : Obj) (hi : i ≤ b + 1) (ho : A.heap[i]? = some o) => (hgr.block i (Array.getElem?_eq_some_iff.1 ho).1 (by rw [hs1]; intro e; cases e; omega)).trans ho
    obtain ⟨c, h1, h2, h3⟩ := h
    exact ⟨c, hIx c p A B _ h1 hgr (by omega) (by omega), hx _ _ (by omega) h2, hx _ _ (by omega) h3⟩
  · rintro pre x W ⟨hi, hl, hd⟩ hlen hsz
    rw [hs1] at hsz
    have hy := run_yield (P := P) (args := encs x) hl (by rw [hrc]; exact hps x)
    rw [hrc] at hy
    refine ⟨fn, _, assign, body, hy, roundIn_of_wpIn hfn (hassign _ pre x W _ hi (by omega) ?_)⟩
    intro a' Wa hka ha
    replace hl := (hka.same _ (Array.getElem?_eq_some_iff.1 hl).1 (.inr (.inr rfl))).trans hl
    replace hd := (hka.same _ (Array.getElem?_eq_some_iff.1 hd).1 (.inr (.inl rfl))).trans hd
    have hlt := (Array.getElem?_eq_some_iff.1 hl).1
    refine ⟨_, run_beginRound hl (by rw [hrc]), ?_⟩
    obtain ⟨Wb, hWb⟩ : ∃ z, Wa.putObj (b + 1) (.loop { rc .ready none with state := .busy }) = z := ⟨_, rfl⟩
    have hlb : Wb.heap[b + 1]? = some (.loop { rc .ready none with state := .busy }) := by rw [← hWb]; exact World.putObj_heap_same hlt
    have hdb : Wb.heap[b]? = some (.deferred (some [])) := by rw [← hWb]; exact (World.putObj_heap_other (by omega)).trans hd
    have hkb : KpS K Wa Wb := by rw [← hWb]; exact KpS.grown (grownBy_putObj' _ _ _) (fun r e => by cases e; exact hnk1)
    have hab : I1 pre x a' Wb := by rw [← hWb]; exact (hI1 pre x a').po ha _ _ (by omega) (by omega)
    rw [hWb]
    clear hWb
    have hka' : KpS K W Wa := ⟨hka.size, fun i h1 h2 => hka.same i h1 (.inl h2)⟩
    have fin : ∀ (jump : Option Code) (W3 : World), KpS (fun i => K i ∨ i = b ∨ i = b + 1) Wb W3 →
        (Instr.endRound (b + 1) jump).run P W3 = .ok (.bool jump.isNone) (W3.putObj (b + 1) (.loop (rc (if jump.isNone then .ready else .done) jump))) ∧
        (W3.putObj (b + 1) (.loop (rc (if jump.isNone then .ready else .done) jump))).heap[b + 1]? = some (.loop (rc (if jump.isNone then .ready else .done) jump)) ∧
        (W3.putObj (b + 1) (.loop (rc (if jump.isNone then .ready else .done) jump))).heap[b]? = some (.deferred (some [])) ∧
        KpS K W (W3.putObj (b + 1) (.loop (rc (if jump.isNone then .ready else .done) jump))) := fun jump W3 hk3 => by
      have hl3 := (hk3.same _ (Array.getElem?_eq_some_iff.1 hlb).1 (.inr (.inr rfl))).trans hlb
      have hd3 := (hk3.same _ (Array.getElem?_eq_some_iff.1 hdb).1 (.inr (.inl rfl))).trans hdb
      have he := run_endRound (P := P) jump hl3
      rw [hrc] at he ⊢
      exact ⟨he, World.putObj_heap_same (Array.getElem?_eq_some_iff.1 hl3).1, (World.putObj_heap_other (by omega)).trans hd3,
        hka'.trans (hkb.trans (KpS.trans ⟨hk3.size, fun i h1 h2 => hk3.same i h1 (.inl h2)⟩ (KpS.grown (grownBy_putObj' _ _ _) (fun r e => by cases e; exact hnk1))))⟩
    refine wpIn_mono (hbody _ pre x a' Wb hab hlen (by have h1 := hka.size; have h2 := hkb.size; omega)) ?_
    rintro e a3 W3 hp
    cases e with
    | normal =>
      obtain ⟨h1, h2, h3, h4⟩ := fin none W3 hp.1
      exact ⟨_, _, h1, .inl ⟨rfl, ⟨(hI _).po hp.2 _ _ (by omega) (by omega), h2, h3⟩, h4⟩⟩
    | ret =>
      obtain ⟨h1, h2, h3, _⟩ := fin (some .ret) W3 hp.1
      exact ⟨_, _, h1, .inr ⟨rfl, .ret, (hIx _ _).po hp.2 _ _ (by omega) (by omega), h2, h3⟩⟩
    | exit id =>
      obtain ⟨h1, h2, h3, _⟩ := fin (some (.exit id)) W3 hp.1
      exact ⟨_, _, h1, .inr ⟨rfl, .exit id, (hIx _ _).po hp.2 _ _ (by omega) (by omega), h2, h3⟩⟩
    | goto t =>
      obtain ⟨h1, h2, h3, _⟩ := fin (some (.goto t)) W3 hp.1
      exact ⟨_, _, h1, .inr ⟨rfl, .goto t, (hIx _ _).po hp.2 _ _ (by omega) (by omega), h2, h3⟩⟩
    | panic ch => exact hp.elim
    | outgrown => exact hp.elim
  · rintro e W2 ⟨⟨v, rfl⟩, ⟨xs, hS, hi, hl, hd⟩ | ⟨pre, hSp, c, hi, hl, hd⟩⟩
    · have he := run_endLoop (P := P) hl (by rw [hrc]; simp)
      refine ⟨none, _, by rw [hrc] at he; exact he, hdone xs _ hS ((hI _).po hi _ _ (by omega) (by omega)) ((World.putObj_heap_other (by omega)).trans hd)⟩
    · have he := run_endLoop (P := P) hl (by rw [hrc]; simp)
      refine ⟨some c, _, by rw [hrc] at he; exact he, hstop c pre _ hSp ((hIx _ _).po hi _ _ (by omega) (by omega)) ((World.putObj_heap_other (by omega)).trans hd)⟩

end Go.Proofs.Ytahbfdhjgnlmdaa

/- Darts searched and compared: the contracts of slices.Index, slices.Equal, ring.Index, and of the document's Index and Darts. -/
namespace Go.Proofs.Ytahbfdhjgnlmdaa
open Go.RowKit
set_option linter.unusedSimpArgs false

theorem eq_dart_run (x y : D) (W : World) : (binOp .eql 35 (.agg #[.int .i64 x.1, .int .i64 x.2.1, .int .i64 x.2.2]) (.agg #[.int .i64 y.1, .int .i64 y.2.1, .int .i64 y.2.2])).run Try.prog W = .ok (.bool (decide (x = y))) W := by
  rw [eq_dart]
  congr 2
  rw [Bool.eq_iff_iff]
  obtain ⟨x1, x2, x3⟩ := x
  obtain ⟨y1, y2, y3⟩ := y
  simp [and_assoc]
theorem neq_dart_run (x y : D) (W : World) : (binOp .neq 35 (.agg #[.int .i64 x.1, .int .i64 x.2.1, .int .i64 x.2.2]) (.agg #[.int .i64 y.1, .int .i64 y.2.1, .int .i64 y.2.2])).run Try.prog W = .ok (.bool (!decide (x = y))) W := by
  obtain ⟨x1, x2, x3⟩ := x
  obtain ⟨y1, y2, y3⟩ := y
  by_cases h1 : x1 = y1 <;> by_cases h2 : x2 = y2 <;> by_cases h3 : x3 = y3 <;> simp [go_sem, h1, h2, h3]

/-- What holds at each round of a comparison. -/
def EqAt (w : World) (L M : List D) (k : Nat) (x : World) : Prop := L.take k = M.take k ∧ Below w.heap.size w x

theorem take_eq_snocD {L M : List D} {k : Nat} (hl : L.length = M.length) (hk : k < L.length) (h : L.take k = M.take k) : L.take (k + 1) = M.take (k + 1) ↔ L.getD k (0, 0, 0) = M.getD k (0, 0, 0) := by
  have hk' : k < M.length := by omega
  rw [List.take_succ_eq_append_getElem hk, List.take_succ_eq_append_getElem hk', h, List.append_right_inj]
  simp [hk, hk']


set_option maxHeartbeats 400000 in
theorem rdarts_any (A A' : Option Addr) (n m c c' : Nat) (L M : List D) (w : World) (h : RdS w w.heap.size 3 A n c (dartsV L)) (h' : RdS w w.heap.size 3 A' m c' (dartsV M)) (hn : n ≤ 9223372036854775807) :
    Calls Try.prog 45 #[.slice A n c, .slice A' m c'] w fun e w' => e = .returned (.bool (decide (L = M))) ∧ Below w.heap.size w w' := by
  have hl := h.dlen
  have hm := h'.dlen
  by_cases he : n = m
  · subst he
    have HL := Lib.hid hl
    have HM := Lib.hid hm
    have H := Lib.hid h
    have H' := Lib.hid h'
    have hnn : ((n : Int) != (n : Int)) = false := by simp
    clear h h' hl hm
    go_enter Try.func45, Try.ntmps45
    go_wp2
    go_loopw [5] (fun i wr => ∃ k : Nat, k ≤ n ∧ i = .int .i64 k ∧ EqAt w L M k wr) (fun i _ => n - (intOf i).toNat)
    case atStart => exact ⟨0, Nat.zero_le _, rfl, rfl, Below.refl _ _⟩
    case round =>
      obtain ⟨k, hk, rfl, he, hbw⟩ := hrel
      have HE := Lib.hid he
      have HB := Lib.hid hbw
      clear he
      by_cases hlt : k < n
      · obtain ⟨b, off, rfl, hb, hc⟩ := H.out.darts (by omega)
        obtain ⟨b', off', rfl, hb', hc'⟩ := H'.out.darts (by omega)
        obtain ⟨c1, c2, c3⟩ := hc k (by rw [HL.out]; exact hlt)
        obtain ⟨e1, e2, e3⟩ := hc' k (by rw [HM.out]; exact hlt)
        have d1 := (hbw.cell (p := ⟨b, off + k * 3, none⟩) hb).trans c1
        have d2 := (hbw.cell (p := ⟨b, off + k * 3 + 1, none⟩) hb).trans c2
        have d3 := (hbw.cell (p := ⟨b, off + k * 3 + 2, none⟩) hb).trans c3
        have f1 := (hbw.cell (p := ⟨b', off' + k * 3, none⟩) hb').trans e1
        have f2 := (hbw.cell (p := ⟨b', off' + k * 3 + 1, none⟩) hb').trans e2
        have f3 := (hbw.cell (p := ⟨b', off' + k * 3 + 2, none⟩) hb').trans e3
        obtain ⟨x, gx⟩ : ∃ v, L.getD k (0, 0, 0) = v := ⟨_, rfl⟩
        obtain ⟨y, gy⟩ : ∃ v, M.getD k (0, 0, 0) = v := ⟨_, rfl⟩
        rw [gx] at d1 d2 d3
        rw [gy] at f1 f2 f3
        have GX := Lib.hid gx
        have GY := Lib.hid gy
        have HT := Lib.hid (take_eq_snocD (by rw [HL.out, HM.out]) (by rw [HL.out]; exact hlt) HE.out)
        have hq := neq_dart_run x y
        clear hc hc' c1 c2 c3 e1 e2 e3 gx gy hbw
        by_cases hd : x = y
        · have hd' : (!decide (x = y)) = false := by simpa using hd
          rw [hd'] at hq
          have HD := Lib.hid hd
          clear hd hd'
          go_wp2
          go_quiet (fail)
          go_wp2
          go_roundw
          case rel => exact ⟨k + 1, by omega, by go_num, HT.out.2 (by rw [GX.out, GY.out, HD.out]), ⟨HB.out.os, HB.out.tape, HB.out.output, HB.out.size, HB.out.block⟩⟩
          case measure => simp [intOf]; omega
        · have hd' : (!decide (x = y)) = true := by simpa using hd
          rw [hd'] at hq
          have HD := Lib.hid hd
          clear hd hd'
          go_wp2
          go_quiet (fail)
          go_wp2
          go_ret
          refine ⟨?_, ⟨HB.out.os, HB.out.tape, HB.out.output, HB.out.size, HB.out.block⟩⟩
          have hne : decide (L = M) = false := by
            simp only [decide_eq_false_iff_not]
            rintro rfl
            exact HD.out (by rw [← GX.out, ← GY.out])
          rw [hne]
          rfl
      · go_wp2
        go_ret
        refine ⟨?_, HB.out⟩
        have hee : decide (L = M) = true := by
          simp only [decide_eq_true_eq]
          have h1 := HE.out
          rwa [List.take_of_length_le (by rw [HL.out]; omega), List.take_of_length_le (by rw [HM.out]; omega)] at h1
        rw [hee]
        rfl
  · have e : decide (L = M) = false := by
      simp only [decide_eq_false_iff_not]
      rintro rfl
      omega
    rw [e]
    have h1 : ((n : Int) != (m : Int)) = true := by simp; omega
    clear h h' hl hm e he
    go_enter Try.func45, Try.ntmps45
    go_wp2
    go_ret
    exact ⟨rfl, Below.refl _ _⟩
end Go.Proofs.Ytahbfdhjgnlmdaa

/- Rings turned to their least: the contract of ring.turned. -/
namespace Go.Proofs.Ytahbfdhjgnlmdaa
open Go.RowKit
set_option linter.unusedSimpArgs false

theorem info_dart : (Try.prog.info? 35).map (fun i => (i.zero, i.size, i.bytes)) = some (some (.agg #[.int .i64 0, .int .i64 0, .int .i64 0]), 3, 24) := by kernel_rfl

/-- A call that answers a slice that reads as these darts, and leaves all that was there as it was. -/
def GivesR (w : World) (L : List D) (e : Ending) (w' : World) : Prop :=
  ∃ A c, e = .returned (.slice A L.length c) ∧ RdS w' w'.heap.size 3 A L.length c (dartsV L) ∧ Below w.heap.size w w'

/-- The parts of a ring, as they lie in a slice of slices. -/
structure Parts (w : World) (A : Option Addr) (n : Nat) (Ps : List (List D)) : Prop where
  len : Ps.length = n
  part : ∀ k, k < n → ∃ b off A' c', A = some ⟨b, off, none⟩ ∧ b < w.heap.size ∧ w.cell? ⟨b, off + k, none⟩ = some (.slice A' (Ps.getD k []).length c') ∧ RdS w w.heap.size 3 A' (Ps.getD k []).length c' (dartsV (Ps.getD k []))
theorem Parts.up {w w' : World} {A : Option Addr} {n : Nat} {Ps : List (List D)} (h : Parts w A n Ps) (hb : Below w.heap.size w w') : Parts w' A n Ps :=
  ⟨h.len, fun k hk => by
    obtain ⟨b, off, A', c', e, hb1, hc, hr⟩ := h.part k hk
    exact ⟨b, off, A', c', e, Nat.lt_of_lt_of_le hb1 hb.size, (hb.cell hb1).trans hc, hr.up hb hb.size⟩⟩

end Go.Proofs.Ytahbfdhjgnlmdaa

/- Rings turned, searched along: the contracts of ring.Turn, along, Next, Prev; and of ring.Same. -/
namespace Go.Proofs.Ytahbfdhjgnlmdaa
open Go.RowKit
set_option linter.unusedSimpArgs false

theorem turnD_length (L : List D) : (turnD L).length = L.length := by
  have := leastI_le L L.length
  simp [turnD]
  omega

theorem RdS.whole3 {w : World} {g : Nat} {t : TypeId} {L : List D} (hw : Whole w g t (dartsV L)) : RdS w w.heap.size 3 (some ⟨g, 0, none⟩) L.length L.length (dartsV L) :=
  ⟨dartsV_length L, fun e => (by cases e), Nat.le_refl _, fun a e _ => (by obtain rfl := Option.some.inj e; exact hw.lt), fun a e j u hj => (by
    obtain rfl := Option.some.inj e
    rw [Addr.add_lit]
    simpa using hw.cell hj)⟩
end Go.Proofs.Ytahbfdhjgnlmdaa

/- ident.May, and the document's own. -/
namespace Go.Proofs.Ytahbfdhjgnlmdaa
open Go.RowKit

theorem rmay_any (s n : Int) : Pure 46 #[.agg #[.int .i64 s, .int .i64 n]] (.bool (mayI s n)) := fun w => by
  by_cases h : 1 ≤ s ∧ s ≤ 8 ∧ 1 ≤ n ∧ n ≤ 1048576
  · rw [show mayI s n = true from decide_eq_true h]
    obtain ⟨h1, h2, h3, h4⟩ := h
    go_enter Try.func46, Try.ntmps46
    go_wp2
    go_ret
    exact ⟨rfl, below1 _ _⟩
  · rw [show mayI s n = false from decide_eq_false h]
    by_cases h1 : 1 ≤ s
    · by_cases h2 : s ≤ 8
      · by_cases h3 : 1 ≤ n
        · have h4 : ¬ n ≤ 1048576 := by omega
          clear h
          go_enter Try.func46, Try.ntmps46
          go_wp2
          go_ret
          exact ⟨rfl, below1 _ _⟩
        · clear h
          go_enter Try.func46, Try.ntmps46
          go_wp2
          go_ret
          exact ⟨rfl, below1 _ _⟩
      · clear h
        go_enter Try.func46, Try.ntmps46
        go_wp2
        go_ret
        exact ⟨rfl, below1 _ _⟩
    · clear h
      go_enter Try.func46, Try.ntmps46
      go_wp2
      go_ret
      exact ⟨rfl, below1 _ _⟩


end Go.Proofs.Ytahbfdhjgnlmdaa

/- The contracts of diagram.MayLabel and of the document's own. -/
namespace Go.Proofs.Ytahbfdhjgnlmdaa
open Go.RowKit
set_option linter.unusedSimpArgs false
set_option linter.unusedVariables false

def okB (c : UInt8) : Bool := decide (32 ≤ c.toNat ∧ c.toNat ≤ 126)
/-- A label that may be. -/
def mayL (s : ByteArray) : Bool := decide (s.size ≤ 16) && s.data.toList.all okB

theorem takeB_snoc (s : ByteArray) (k : Nat) (h : k < s.size) : s.data.toList.take (k + 1) = s.data.toList.take k ++ [s[k]] := by
  rw [List.take_succ_eq_append_getElem (by simpa using h)]; rfl
theorem allB_step (s : ByteArray) (k : Nat) (h : k < s.size) (ha : (s.data.toList.take k).all okB = true) (hk : okB s[k] = true) : (s.data.toList.take (k + 1)).all okB = true := by
  rw [takeB_snoc s k h, List.all_append, ha]
  simp [hk]
theorem allB_not (s : ByteArray) (k : Nat) (h : k < s.size) (hk : okB s[k] = false) : s.data.toList.all okB = false := by
  rw [List.all_eq_false]
  refine ⟨s[k], ?_, by simp [hk]⟩
  show s.data[k] ∈ s.data.toList
  simp
theorem allB_all (s : ByteArray) (k : Nat) (h : s.size ≤ k) (ha : (s.data.toList.take k).all okB = true) : s.data.toList.all okB = true := by
  rwa [List.take_of_length_le (by simpa using h)] at ha

set_option maxRecDepth 100000 in
theorem rmaylabel_any (s : ByteArray) (hs : s.size ≤ maxLen) : Pure 34 #[.string s] (.bool (mayL s)) := fun w => by
  unfold maxLen at hs
  go_enter Try.func34, Try.ntmps34
  go_wp2
  go_loop [3] (fun i => ∃ k : Nat, k ≤ s.size ∧ i = .int .i64 k ∧ (s.data.toList.take k).all okB = true) (fun i => s.size - (intOf i).toNat)
  case atStart => exact ⟨0, Nat.zero_le _, rfl, by simp⟩
  case round =>
    obtain ⟨k, hk, rfl, ha⟩ := hrel
    have HA := Lib.hid ha
    clear ha
    by_cases hlt : k < s.size
    · obtain ⟨c, gc⟩ : ∃ c : UInt8, c = s[k] := ⟨_, rfl⟩
      have HGC := Lib.hid gc
      by_cases c1 : 32 ≤ c.toNat
      · by_cases c2 : c.toNat ≤ 126
        · have q1 : decide ((c.toNat : Int) < 32) = false := decide_eq_false (by omega)
          have q2 : decide ((126 : Int) < (c.toNat : Int)) = false := decide_eq_false (by omega)
          rw [gc] at q1 q2
          have HK : RowKit.Hid (okB c = true) := Lib.hid (by simp [okB]; omega)
          clear c1 c2 gc
          go_wp2
          go_round
          case rel => exact ⟨k + 1, by omega, by go_num, allB_step s k hlt HA.out (HGC.out ▸ HK.out)⟩
          case measure => simp [intOf]; omega
        · have q1 : decide ((c.toNat : Int) < 32) = false := decide_eq_false (by omega)
          have q2 : decide ((126 : Int) < (c.toNat : Int)) = true := decide_eq_true (by omega)
          rw [gc] at q1 q2
          have hr : mayL s = false := by
            have : okB (s[k]'hlt) = false := by rw [← gc]; simp [okB]; omega
            simp [mayL, allB_not s k hlt this]
          have HR := Lib.hid hr
          clear c1 c2 gc hr
          go_wp2
          go_ret
          exact ⟨ret_bool HR.out.symm, Below.refl _ _⟩
      · have q1 : decide ((c.toNat : Int) < 32) = true := decide_eq_true (by omega)
        rw [gc] at q1
        have hr : mayL s = false := by
          have : okB (s[k]'hlt) = false := by rw [← gc]; simp [okB]; omega
          simp [mayL, allB_not s k hlt this]
        have HR := Lib.hid hr
        clear c1 gc hr
        go_wp2
        go_ret
        exact ⟨ret_bool HR.out.symm, Below.refl _ _⟩
    · have hr : mayL s = decide (s.size ≤ 16) := by simp [mayL, allB_all s k (by omega) HA.out]
      by_cases h16 : s.size ≤ 16
      · rw [decide_eq_true h16] at hr
        have HR := Lib.hid hr
        have q : decide ((s.size : Int) ≤ 16) = true := decide_eq_true (by omega)
        clear hr h16
        go_wp2
        go_ret
        exact ⟨ret_bool HR.out.symm, Below.refl _ _⟩
      · rw [decide_eq_false h16] at hr
        have HR := Lib.hid hr
        have q : decide ((s.size : Int) ≤ 16) = false := decide_eq_false (by omega)
        clear hr h16
        go_wp2
        go_ret
        exact ⟨ret_bool HR.out.symm, Below.refl _ _⟩
end Go.Proofs.Ytahbfdhjgnlmdaa

/- A diagram in memory: its cells; and as lists. -/
namespace Go.Proofs.Ytahbfdhjgnlmdaa
open Go.RowKit Go.Maps
set_option linter.unusedSimpArgs false
set_option linter.unusedVariables false

/-- A slice of darts, and the darts. -/
abbrev Rg := Option Addr × Nat × Nat × List D
/-- A vertex: its name, ring, label, attribute; an edge: its name, label, attribute. -/
abbrev VC := (Int × Int) × Rg × ByteArray × Int
abbrev EC := (Int × Int) × ByteArray × Int
def vC (v : VC) : List Value := [.int .i64 v.1.1, .int .i64 v.1.2, .slice v.2.1.1 v.2.1.2.1 v.2.1.2.2.1, .string v.2.2.1, .int .i64 v.2.2.2]
def eC (e : EC) : List Value := [.int .i64 e.1.1, .int .i64 e.1.2, .string e.2.1, .int .i64 e.2.2]
theorem vC_len (v : VC) : (vC v).length = 5 := rfl
theorem eC_len (e : EC) : (eC e).length = 4 := rfl
theorem vC_one (v : VC) : ∀ u ∈ vC v, u.oneCell' = true := by simp [vC, Value.oneCell']
theorem eC_one (e : EC) : ∀ u ∈ eC e, u.oneCell' = true := by simp [eC, Value.oneCell']
def dC (d : D) : List Value := [.int .i64 d.1, .int .i64 d.2.1, .int .i64 d.2.2]
theorem dC_len (d : D) : (dC d).length = 3 := rfl
theorem dartsV_rows (l : List D) : dartsV l = rowsV dC l := by
  induction l with
  | nil => rfl
  | cons d l ih => rw [dartsV, ih]; rfl
/-- A ring lies where its slice says. -/
def RgOk (w : World) (r : Rg) : Prop := r.2.2.1 ≤ maxLen ∧ RdS w w.heap.size 3 r.1 r.2.1 r.2.2.1 (dartsV r.2.2.2)
/-- A diagram: its two rows. -/
structure DgIn (w : World) (A : Option Addr) (n c : Nat) (Vs : List VC) (B : Option Addr) (m k : Nat) (Es : List EC) : Prop where
  v : RdS w w.heap.size 5 A n c (rowsV vC Vs)
  e : RdS w w.heap.size 4 B m k (rowsV eC Es)
  r : ∀ x ∈ Vs, RgOk w x.2.1
theorem DgIn.below {w w' : World} {A B : Option Addr} {n c m k : Nat} {Vs : List VC} {Es : List EC} (h : DgIn w A n c Vs B m k Es) (hb : Below w.heap.size w w') : DgIn w' A n c Vs B m k Es :=
  ⟨h.v.bl hb, h.e.bl hb, fun x hx => ⟨(h.r x hx).1, (h.r x hx).2.bl hb⟩⟩
def mayA (n : Int) : Bool := decide (-1099511627776 ≤ n ∧ n ≤ 1099511627776)
end Go.Proofs.Ytahbfdhjgnlmdaa

/- What a vertex and an edge are asked: name, label, attribute; names that rise. -/
namespace Go.Proofs.Ytahbfdhjgnlmdaa
open Go.RowKit
set_option linter.unusedSimpArgs false
set_option linter.unusedVariables false

theorem ret_whole {P : Program} {fn : Func} {R : Ending → World → Prop} {a : Act} {w : World} {p : Tmp} {t : TypeId} (h : fn.results = #[.cell p t]) (g : Nat) {t' : TypeId} {cs : List Value} {d : TypeDesc}
    (hp : a.tmps.getD p undef = .pointer (some ⟨g, 0, none⟩)) (hW : Whole w g t' cs) (hu : P.underlying t = some d) (hd : d.isRow = true) (hi : (P.info? t).map (·.size) = some cs.length)
    (hdf : a.defers = []) (hR : R (.returned (.agg cs.toArray)) w) : bodyPost P fn R .ret a w := by
  refine bodyPost_ret (v := .agg cs.toArray) ?_ hdf hR
  have hl := run_loadVar_mid (P := P) w g 0 t cs d (fun j v hv => by
    have := hW.cell hv
    simpa using this) hu hd hi
  have hp2 := hp
  rw [Array.getD_eq_getD_getElem?] at hp2
  simp [results, h, hp2, asAddr, Sem.run_bind, Result.andThen, hl]

def riseF : Option (Int × Int) → List (Int × Int) → Bool
  | _, [] => true
  | o, x :: r => mayI x.1 x.2 && (match o with | none => true | some y => decide (ordI y.1 y.2 x.1 x.2 < 0)) && riseF (some x) r
end Go.Proofs.Ytahbfdhjgnlmdaa

/- all[T]: each of a row may be. -/
namespace Go.Proofs.Ytahbfdhjgnlmdaa
open Go.RowKit
set_option linter.unusedSimpArgs false
set_option linter.unusedVariables false

/-- A function of the program is entered. -/
abbrev Ent (k : Nat) : Prop := ∀ (args : Array Value) (W : World), (callFunc k args).run Try.prog W = .ok (.enter k args) W
theorem ent_of {k : Nat} {fn : Func} {c : Code} (hf : Try.prog.funcs[k]? = some fn) (hname : (fn.name == "runtime.NumGoroutine") = false) (hb : fn.body = some c) : Ent k := fun args W => by
  have h1 : fn.name ≠ "runtime.NumGoroutine" := by simpa using hname
  simp [callFunc, Sem.run_bind, hf, hb, h1]
end Go.Proofs.Ytahbfdhjgnlmdaa

/- turned: each ring begins with its least dart. -/
namespace Go.Proofs.Ytahbfdhjgnlmdaa
open Go.RowKit
set_option linter.unusedSimpArgs false
set_option linter.unusedVariables false

theorem RgOk.below {w w' : World} {r : Rg} (h : RgOk w r) (hb : Below w.heap.size w w') : RgOk w' r := ⟨h.1, h.2.bl hb⟩
def turnOk (v : VC) : Bool := decide (v.2.1.2.2.2 = turnD v.2.1.2.2.2)
end Go.Proofs.Ytahbfdhjgnlmdaa

/- A dart as a key; a set of darts. -/
namespace Go.Proofs.Ytahbfdhjgnlmdaa
open Go.RowKit Go.Maps
set_option linter.unusedSimpArgs false
set_option linter.unusedVariables false

def wfD (d : D) : Prop := (Lit.int .i64 d.1).wf = true ∧ (Lit.int .i64 d.2.1).wf = true ∧ (Lit.int .i64 d.2.2).wf = true
def kD (d : D) : Lit := .string (keyBytes [.int .i64 d.1, .int .i64 d.2.1, .int .i64 d.2.2])
theorem wide_dart : (match Try.prog.underlying 35 with | some (.array _ _) | some (.struct _) => true | _ => false) = true := by rw [Try.underlying35]
theorem laid_prog : laidOutB Try.prog = true := by kernel_rfl
set_option maxRecDepth 100000 in
theorem law_dart : WideMaps.KeyLaw Try.prog 35 := deep_law_laid laid_prog (m := 3) (by omega) (by show 35 < Try.prog.types.size; rw [show Try.prog.types.size = Try.prog.types.size from rfl]; decide) (by kernel_rfl) wide_dart
theorem keyed_dart : Keyed Try.prog 35 := Keyed.of_law law_dart
theorem lits_dart (m : Nat) (d : D) (h : wfD d) : Try.prog.keyLits (m + 3) 35 (dC d) = some [.int .i64 d.1, .int .i64 d.2.1, .int .i64 d.2.2] := by
  obtain ⟨h1, h2, h3⟩ := h
  have c1 : Try.prog.cellsOf 35 = 3 := by kernel_rfl
  have c2 : Try.prog.cellsOf 31 = 2 := by kernel_rfl
  have c3 : Try.prog.cellsOf 3 = 1 := by kernel_rfl
  have i1 : ∀ (n : Nat) (x : Int), (Lit.int .i64 x).wf = true → Try.prog.keyLits (n + 1) 3 [.int .i64 x] = some [.int .i64 x] := fun n x hx => by simp [Program.keyLits, Try.underlying3, hx]
  have i2 : ∀ n, Try.prog.keyLits (n + 2) 31 [.int .i64 d.1, .int .i64 d.2.1] = some [.int .i64 d.1, .int .i64 d.2.1] := fun n => by
    unfold Program.keyLits
    simp only [Try.underlying31, c2]
    rw [if_pos ⟨rfl, by kernel_rfl⟩]
    simp [c3, i1, h1, h2]
  unfold Program.keyLits
  simp only [Try.underlying35, c1]
  rw [if_pos ⟨rfl, by kernel_rfl⟩]
  simp [c2, c3, i1, i2, h3, dC]
theorem key_dart (d : D) (h : wfD d) : keyOf Try.prog 35 (.agg (dC d).toArray) = some (kD d) := by
  have hk : Try.prog.keyType 35 = true := by kernel_rfl
  have c1 : Try.prog.cellsOf 35 = 3 := by kernel_rfl
  have hf : (Value.agg (dC d).toArray).formed Try.prog 35 = true := by simp [Value.formed, Try.underlying35, c1, dC]
  obtain ⟨m, hm⟩ : ∃ m, Try.prog.types.size + 1 = m + 3 := ⟨Try.prog.types.size - 2, by kernel_rfl⟩
  have hl := lits_dart m d h
  rw [← hm] at hl
  unfold keyOf
  simp only [Try.underlying35, hk, hf, Value.cells, Bool.and_self, if_true]
  rw [hl]
  rfl
theorem kD_inj {a b : D} (ha : wfD a) (hb : wfD b) (h : kD a = kD b) : a = b := by
  have := keyed_dart.inj (key_dart a ha) (by rw [h]; exact key_dart b hb)
  simp [dC] at this
  obtain ⟨a1, a2, a3⟩ := a
  obtain ⟨b1, b2, b3⟩ := b
  simp_all
theorem kD_key {a : D} (ha : wfD a) : WideAt.IsKeyLit (kD a) := keyed_dart.key (key_dart a ha)

/-- The datum is this set of darts. -/
structure SetD {H : Type} (Dt : DataW H) (S : List D) : Prop where
  tidy : Tidy Dt
  nd : S.Nodup
  wf : ∀ d ∈ S, wfD d
  size : Maps.size Dt = S.length
  has : ∀ d, wfD d → Maps.has Dt (kD d) = decide (d ∈ S)
def insD (d : D) (S : List D) : List D := if d ∈ S then S else d :: S
theorem SetD.empty {H : Type} : SetD (.map [] : DataW H) [] := ⟨tidy_empty, List.nodup_nil, by simp, rfl, fun d _ => by simp [Maps.has]⟩
theorem SetD.put {H : Type} {Dt : DataW H} {S : List D} (h : SetD Dt S) (d : D) (hd : wfD d) (u : DataW H) : SetD (Dt.put (kD d) u) (insD d S) := by
  have hm := h.has d hd
  refine ⟨h.tidy.put (kD_key hd) u, ?_, ?_, ?_, ?_⟩
  · unfold insD
    split
    · exact h.nd
    · rename_i hn; exact List.nodup_cons.2 ⟨hn, h.nd⟩
  · intro x hx
    unfold insD at hx
    split at hx
    · exact h.wf x hx
    · rcases List.mem_cons.1 hx with rfl | hx
      · exact hd
      · exact h.wf x hx
  · rw [size_put h.tidy, hm, h.size]
    unfold insD
    split <;> simp_all
  · intro x hx
    by_cases e : x = d
    · subst e
      rw [has_put_same h.tidy.isMap (kD_key hd)]
      unfold insD
      split <;> simp_all
    · rw [has_put_other (fun e' => e (kD_inj hx hd e')), h.has x hx]
      unfold insD
      split <;> simp_all
end Go.Proofs.Ytahbfdhjgnlmdaa

/- A map in memory as a function of its keys, whatever its keys and elements. -/
namespace Go.Proofs.Ytahbfdhjgnlmdaa
open Go.RowKit Go.Maps
set_option linter.unusedSimpArgs false
set_option linter.unusedVariables false
set_option linter.unusedSectionVars false

/-- An element reads as itself. -/
def RVv (v : Value) : Option (DataW Value × List MemPlace) := some (.held v, [])
/-- A kind of keys. -/
structure KeyK (P : Program) (K : TypeId) (κ : Type) where
  enc : κ → Value
  kl : κ → Lit
  wf : κ → Prop
  keyed : Keyed P K
  key : ∀ x, wf x → keyOf P K (enc x) = some (kl x)
  inj : ∀ x y, wf x → wf y → kl x = kl y → x = y
  lit : ∀ x, wf x → WideAt.IsKeyLit (kl x)
section
variable {P : Program} {t K e : TypeId} {κ : Type} [DecidableEq κ] {k : KeyK P K κ} {b n : Nat} {f : κ → Option Value} {w w' : World} {x : κ}
/-- Block b is a map of at most n entries that answers as f. -/
def MapF (w : World) (k : KeyK P K κ) (b n : Nat) (f : κ → Option Value) : Prop :=
  ∃ D : DataW Value, w.ownsMap P K RVv b n D ∧ ∀ x, k.wf x → has D (k.kl x) = (f x).isSome ∧ ∀ z, D.atKey (k.kl x) (.held z) = .held ((f x).getD z)
theorem MapF.lt (h : MapF w k b n f) : b < w.heap.size := let ⟨_, h1, _⟩ := h; World.ownsMap.lt h1
theorem MapF.mono {n' : Nat} (h : MapF w k b n f) (hn : n ≤ n') : MapF w k b n' f := let ⟨D, h1, h2⟩ := h; ⟨D, World.ownsMap.mono h1 hn, h2⟩
theorem MapF.kept {S : Nat → Prop} (h : MapF w k b n f) (hk : Kept S w w') (hb : ¬ S b) : MapF w' k b n f := by
  obtain ⟨D, h0, h2⟩ := h
  have hlt := World.ownsMap.lt h0
  obtain ⟨es, clock, h1, F, hs, hD⟩ := h0
  exact ⟨D, ⟨es, clock, (hk.block b hlt hb).trans h1, F, hs, hD⟩, h2⟩
theorem MapF.bl (h : MapF w k b n f) (hb : Below w.heap.size w w') : MapF w' k b n f := h.kept (Kept.of_below (S := fun _ => False) hb) (fun e => e)
theorem MapF.al (h : MapF w k b n f) (o : Obj) : MapF (w.alloc o) k b n f := h.bl ((Below.refl _ w).alloc (Nat.le_refl _) o)
theorem MapF.dr (h : MapF w k b n f) : MapF w.drew k b n f := h.bl ((Below.refl _ _).drew)
theorem MapF.grown {r : Option Nat} (h : MapF w k b n f) (hg : w.grownBy w' r) (hr : some b ≠ r) : MapF w' k b n f :=
  h.kept (S := fun i => some i = r) ⟨hg.os, hg.tape, hg.output, hg.size, fun i hi hn => hg.block i hi hn⟩ hr
theorem MapF.made : MapF (w.alloc (.map #[] 0)) k w.heap.size 0 (fun _ => none) :=
  ⟨.map [], World.ownsMap_made _ _ _ _, fun x hx => ⟨by simp [has], fun z => WideAt.atKey_none (.held z) (fun p hp => by cases hp)⟩⟩
theorem MapF.look (h : MapF w k b n f) (ht : P.underlying t = some (.map K e)) {z : Value} (hz : (zeroValue e).run P w = .ok z w) (hx : k.wf x) :
    (Instr.lookup t (.map (some b)) (k.enc x) true).run P w = .ok (.tuple #[(f x).getD z, .bool (f x).isSome]) w := by
  obtain ⟨D, h1, h2⟩ := h
  obtain ⟨v, ps, hrun, hv⟩ := World.ownsMap.look_ok h1 k.keyed ht hz (zd := .held z) (zp := []) rfl (k.key x hx)
  obtain ⟨h3, h4⟩ := h2 x hx
  have h5 := (Prod.mk.inj (Option.some.inj hv)).1
  rw [h4 z] at h5
  injection h5 with h5
  rw [hrun, h3, ← h5]
theorem MapF.put (h : MapF w k b n f) (ht : P.underlying t = some (.map K e)) (hn : n < maxLen) (hx : k.wf x) (v : Value) :
    ∃ w', (Instr.mapUpdate t (.map (some b)) (k.enc x) v).run P w = .ok () w' ∧ MapF w' k b (n + 1) (fun y => if y = x then some v else f y) ∧ w.grownBy w' (some b) := by
  obtain ⟨D, h1, h2⟩ := h
  obtain ⟨w', h3, h4, h5⟩ := World.ownsMap.store h1 k.keyed ht hn (k.key x hx) (d := .held v) (ps := []) rfl
  refine ⟨w', h3, ⟨_, h4, fun y hy => ?_⟩, h5.grown⟩
  by_cases e : y = x
  · subst e
    simp only [if_pos, Option.isSome_some, Option.getD_some]
    exact ⟨has_put_same (World.ownsMap.isMap h1) (k.lit y hx) _, fun z => atKey_put_same (World.ownsMap.isMap h1) (k.lit y hx) _ _⟩
  · simp only [if_neg e]
    rw [has_put_other (fun q => e (k.inj _ _ hy hx q))]
    exact ⟨(h2 y hy).1, fun z => by rw [atKey_put_other (fun q => e (k.inj _ _ hy hx q))]; exact (h2 y hy).2 z⟩
end
theorem exec_mapPut {P : Program} {ev : Operand → Value} {o : Oper} {w w' : World} {t : TypeId} {m x v : Operand} {key val : Value} {b : Option Nat} (ho : o.op = .mapUpdate t m x v) (hm : ev m = .map b) (hx : ev x = key) (hv : ev v = val)
    (hrun : (Instr.mapUpdate t (.map b) key val).run P w = .ok () w') : (execOp ev o).run P w = .ok .skip w' := by
  simp [execOp, ho, hm, hx, hv, hrun, Result.andThen]
theorem exec_mapLook {P : Program} {ev : Operand → Value} {o : Oper} {w w' : World} {t : TypeId} {m x : Operand} {key v : Value} {b : Option Nat} (ho : o.op = .lookup t m x true) (hm : ev m = .map b) (hx : ev x = key)
    (hrun : (Instr.lookup t (.map b) key true).run P w = .ok v w') : (execOp ev o).run P w = .ok (.value v) w' := by
  simp [execOp, ho, hm, hx, hrun, Result.andThen]
section
variable {P : Program} {t K e : TypeId} {κ : Type} [DecidableEq κ] {k : KeyK P K κ} {b n : Nat} {f : κ → Option Value} {w : World} {x : κ} {ops : Array Oper} {rest : List Oper} {o : Oper} {a : Act} {Q : Exit → Act → World → Prop}
theorem wl_mapLook (hg : o.guard = none) (m y : Operand) (ho : o.op = .lookup t m y true) (hm : a.eval m = .map (some b)) (h : MapF w k b n f) (ht : P.underlying t = some (.map K e)) {z : Value} (hz : (zeroValue e).run P w = .ok z w) (hx : k.wf x)
    (hy : a.eval y = k.enc x) (hK : wpList P ops Q rest (a.put o.dst (.tuple #[(f x).getD z, .bool (f x).isSome])) w) : wpList P ops Q (o :: rest) a w := by
  refine wpList_plain hg fun K' hK' => ?_
  unfold Oper.wp
  rw [exec_mapLook ho hm hy (h.look ht hz hx)]
  exact hK' _ _ hK
theorem wl_mapPut (hg : o.guard = none) (m y v : Operand) (ho : o.op = .mapUpdate t m y v) (hm : a.eval m = .map (some b)) (h : MapF w k b n f) (ht : P.underlying t = some (.map K e)) (hn : n < maxLen) (hx : k.wf x)
    (hy : a.eval y = k.enc x) {u : Value} (hv : a.eval v = u) (hK : ∀ w', MapF w' k b (n + 1) (fun y => if y = x then some u else f y) → w.grownBy w' (some b) → wpList P ops Q rest (a.put o.dst undef) w') : wpList P ops Q (o :: rest) a w := by
  refine wpList_plain hg fun K' hK' => ?_
  obtain ⟨w', h1, h2, h3⟩ := h.put ht hn hx u
  unfold Oper.wp
  rw [exec_mapPut ho hm hy hv h1]
  exact hK' _ _ (hK w' h2 h3)
end
end Go.Proofs.Ytahbfdhjgnlmdaa

/- Names and darts as keys of maps. -/
namespace Go.Proofs.Ytahbfdhjgnlmdaa
open Go.RowKit Go.Maps
set_option linter.unusedSimpArgs false
set_option linter.unusedVariables false

def keyDart : KeyK Try.prog 35 D where
  enc d := .agg #[.int .i64 d.1, .int .i64 d.2.1, .int .i64 d.2.2]
  kl := kD
  wf := wfD
  keyed := keyed_dart
  key := key_dart
  inj _ _ := kD_inj
  lit _ := kD_key
abbrev I2 := Int × Int
def wfI (d : I2) : Prop := (Lit.int .i64 d.1).wf = true ∧ (Lit.int .i64 d.2).wf = true
def kI (d : I2) : Lit := .string (keyBytes [.int .i64 d.1, .int .i64 d.2])
theorem wide_id : (match Try.prog.underlying 31 with | some (.array _ _) | some (.struct _) => true | _ => false) = true := by rw [Try.underlying31]
set_option maxRecDepth 100000 in
theorem law_id : WideMaps.KeyLaw Try.prog 31 := deep_law_laid laid_prog (m := 2) (by omega) (by show 31 < Try.prog.types.size; decide) (by kernel_rfl) wide_id
theorem keyed_id : Keyed Try.prog 31 := Keyed.of_law law_id
theorem lits_id (m : Nat) (d : I2) (h : wfI d) : Try.prog.keyLits (m + 2) 31 [.int .i64 d.1, .int .i64 d.2] = some [.int .i64 d.1, .int .i64 d.2] := by
  obtain ⟨h1, h2⟩ := h
  have c2 : Try.prog.cellsOf 31 = 2 := by kernel_rfl
  have c3 : Try.prog.cellsOf 3 = 1 := by kernel_rfl
  have i1 : ∀ (n : Nat) (x : Int), (Lit.int .i64 x).wf = true → Try.prog.keyLits (n + 1) 3 [.int .i64 x] = some [.int .i64 x] := fun n x hx => by simp [Program.keyLits, Try.underlying3, hx]
  unfold Program.keyLits
  simp only [Try.underlying31, c2]
  rw [if_pos ⟨rfl, by kernel_rfl⟩]
  simp [c3, i1, h1, h2]
theorem key_id (d : I2) (h : wfI d) : keyOf Try.prog 31 (.agg #[.int .i64 d.1, .int .i64 d.2]) = some (kI d) := by
  have hk : Try.prog.keyType 31 = true := by kernel_rfl
  have c1 : Try.prog.cellsOf 31 = 2 := by kernel_rfl
  have hf : (Value.agg #[.int .i64 d.1, .int .i64 d.2]).formed Try.prog 31 = true := by simp [Value.formed, Try.underlying31, c1]
  obtain ⟨m, hm⟩ : ∃ m, Try.prog.types.size + 1 = m + 2 := ⟨Try.prog.types.size - 1, by kernel_rfl⟩
  have hl := lits_id m d h
  rw [← hm] at hl
  unfold keyOf
  simp only [Try.underlying31, hk, hf, Value.cells, Bool.and_self, if_true]
  rw [hl]
  rfl
theorem kI_inj {a b : I2} (ha : wfI a) (hb : wfI b) (h : kI a = kI b) : a = b := by
  have := keyed_id.inj (key_id a ha) (by rw [h]; exact key_id b hb)
  simp at this
  exact Prod.ext this.1 this.2
def keyID : KeyK Try.prog 31 I2 where
  enc d := .agg #[.int .i64 d.1, .int .i64 d.2]
  kl := kI
  wf := wfI
  keyed := keyed_id
  key := key_id
  inj _ _ := kI_inj
  lit _ h := keyed_id.key (key_id _ h)
theorem zero_intK (w : World) : (zeroValue 3).run Try.prog w = .ok (.int .i64 0) w := by
  obtain ⟨i, hi, hz⟩ : ∃ i, Try.prog.info? 3 = some i ∧ i.zero = some (.int .i64 0) := by
    have h : (Try.prog.info? 3).map (·.zero) = some (some (.int .i64 0)) := by kernel_rfl
    cases h2 : Try.prog.info? 3 with
    | none => rw [h2] at h; cases h
    | some i => rw [h2] at h; exact ⟨i, rfl, by simpa using h⟩
  simp [zeroValue, typeInfo, hi, hz]
end Go.Proofs.Ytahbfdhjgnlmdaa

/- eachOnce: just the darts of the edges stand in rings, each once. -/
namespace Go.Proofs.Ytahbfdhjgnlmdaa
open Go.RowKit Go.Maps
set_option linter.unusedSimpArgs false
set_option linter.unusedVariables false

def onceF : List D → List D → Bool
  | S, [] => decide (S.length = 0)
  | S, x :: r => if x ∈ S then onceF (S.erase x) r else false
def edS : List EC → List D → List D
  | [], S => S
  | e :: r, S => edS r (insD (e.1.1, e.1.2, 1) (insD (e.1.1, e.1.2, 0) S))
def ringsOf (Vs : List VC) : List D := Vs.flatMap (·.2.1.2.2.2)
theorem bel_grown {w W w1 : World} {b : Nat} (h : Below w.heap.size w W) (hg : W.grownBy w1 (some b)) (hb : w.heap.size ≤ b) : Below w.heap.size w w1 :=
  ⟨hg.os.trans h.os, hg.tape.trans h.tape, hg.output.trans h.output, Nat.le_trans h.size hg.size, fun i hi => (hg.block i (Nat.lt_of_lt_of_le hi h.size) (by intro e; cases e; omega)).trans (h.block i hi)⟩
/-- The map in block b of wr is this set of darts. -/
def MapS (wr : World) (b n : Nat) (S : List D) : Prop := ∃ Dt : DataW Unit, wr.ownsMap Try.prog 35 unitElem b n Dt ∧ SetD Dt S
theorem MapS.alloc {w : World} {b n : Nat} {S : List D} (h : MapS w b n S) (o : Obj) : MapS (w.alloc o) b n S := let ⟨Dt, h1, h2⟩ := h; ⟨Dt, h1.alloc o, h2⟩
theorem MapS.mono {w : World} {b n n' : Nat} {S : List D} (h : MapS w b n S) (hn : n ≤ n') : MapS w b n' S := let ⟨Dt, h1, h2⟩ := h; ⟨Dt, h1.mono hn, h2⟩
theorem MapS.lt {w : World} {b n : Nat} {S : List D} (h : MapS w b n S) : b < w.heap.size := let ⟨_, h1, _⟩ := h; h1.lt
section
variable {ops : Array Oper} {rest : List Oper} {o : Oper} {a : Act} {Q : Exit → Act → World → Prop} {w : World}
end
end Go.Proofs.Ytahbfdhjgnlmdaa

/- A map whose keys are darts: what it answers, and which keys it has. -/
namespace Go.Proofs.Ytahbfdhjgnlmdaa
open Go.RowKit Go.Maps
set_option linter.unusedSimpArgs false
set_option linter.unusedVariables false
set_option linter.unusedSectionVars false

def dV (d : D) : Value := .agg #[.int .i64 d.1, .int .i64 d.2.1, .int .i64 d.2.2]
/-- Block b is a map of at most n entries, with the keys S, that answers as f. -/
def MapD (w : World) (b n : Nat) (f : D → Option Value) (S : List D) : Prop :=
  ∃ Dt : DataW Value, w.ownsMap Try.prog 35 RVv b n Dt ∧ (∀ x, wfD x → has Dt (kD x) = (f x).isSome ∧ ∀ z, Dt.atKey (kD x) (.held z) = .held ((f x).getD z)) ∧ SetD Dt S
section
variable {b n : Nat} {f : D → Option Value} {S : List D} {w w' : World} {x : D} {t e : TypeId}
theorem MapD.lt (h : MapD w b n f S) : b < w.heap.size := let ⟨_, h1, _⟩ := h; World.ownsMap.lt h1
theorem MapD.mono {n' : Nat} (h : MapD w b n f S) (hn : n ≤ n') : MapD w b n' f S := let ⟨D, h1, h2⟩ := h; ⟨D, World.ownsMap.mono h1 hn, h2⟩
theorem MapD.at_ (h : MapD w b n f S) (hb : w'.heap[b]? = w.heap[b]?) : MapD w' b n f S := by
  obtain ⟨D, ⟨es, clock, h1, F, hs, hD⟩, h2⟩ := h
  exact ⟨D, ⟨es, clock, hb.trans h1, F, hs, hD⟩, h2⟩
theorem MapD.kept {S' : Nat → Prop} (h : MapD w b n f S) (hk : Kept S' w w') (hb : ¬ S' b) : MapD w' b n f S := h.at_ (hk.block b h.lt hb)
theorem MapD.bl (h : MapD w b n f S) (hb : Below w.heap.size w w') : MapD w' b n f S := h.kept (Kept.of_below (S := fun _ => False) hb) (fun e => e)
theorem MapD.al (h : MapD w b n f S) (o : Obj) : MapD (w.alloc o) b n f S := h.bl ((Below.refl _ w).alloc (Nat.le_refl _) o)
theorem MapD.dr (h : MapD w b n f S) : MapD w.drew b n f S := h.bl ((Below.refl _ _).drew)
theorem MapD.grown {r : Option Nat} (h : MapD w b n f S) (hg : w.grownBy w' r) (hr : some b ≠ r) : MapD w' b n f S := h.at_ (hg.block b h.lt hr)
theorem MapD.made : MapD (w.alloc (.map #[] 0)) w.heap.size 0 (fun _ => none) [] :=
  ⟨.map [], World.ownsMap_made _ _ _ _, fun x hx => ⟨by simp [has], fun z => WideAt.atKey_none (.held z) (fun p hp => by cases hp)⟩, SetD.empty⟩
theorem MapD.mapF (h : MapD w b n f S) : MapF w keyDart b n f := let ⟨D, h1, h2, _⟩ := h; ⟨D, h1, h2⟩
theorem MapD.keys (h : MapD w b n f S) (hx : wfD x) : x ∈ S ↔ (f x).isSome = true := by
  obtain ⟨Dt, h1, h2, h3⟩ := h
  rw [← (h2 x hx).1, h3.has x hx, decide_eq_true_eq]
theorem MapD.wf (h : MapD w b n f S) : ∀ d ∈ S, wfD d := let ⟨_, _, _, h3⟩ := h; h3.wf
theorem MapD.nd (h : MapD w b n f S) : S.Nodup := let ⟨_, _, _, h3⟩ := h; h3.nd
theorem MapD.put (h : MapD w b n f S) (ht : Try.prog.underlying t = some (.map 35 e)) (hn : n < maxLen) (hx : wfD x) (v : Value) :
    ∃ w', (Instr.mapUpdate t (.map (some b)) (dV x) v).run Try.prog w = .ok () w' ∧ MapD w' b (n + 1) (fun y => if y = x then some v else f y) (insD x S) ∧ w.grownBy w' (some b) := by
  obtain ⟨Dt, h1, h2, h3⟩ := h
  obtain ⟨w', r3, r4, r5⟩ := World.ownsMap.store h1 keyed_dart ht hn (key_dart x hx) (d := .held v) (ps := []) rfl
  refine ⟨w', r3, ⟨_, r4, fun y hy => ?_, h3.put x hx _⟩, r5.grown⟩
  by_cases e : y = x
  · subst e
    simp only [if_pos, Option.isSome_some, Option.getD_some]
    exact ⟨has_put_same (World.ownsMap.isMap h1) (kD_key hy) _, fun z => atKey_put_same (World.ownsMap.isMap h1) (kD_key hy) _ _⟩
  · simp only [if_neg e]
    rw [has_put_other (fun q => e (kD_inj hy hx q))]
    exact ⟨(h2 y hy).1, fun z => by rw [atKey_put_other (fun q => e (kD_inj hy hx q))]; exact (h2 y hy).2 z⟩
variable {ops : Array Oper} {rest : List Oper} {o : Oper} {a : Act} {Q : Exit → Act → World → Prop}
/-- How many entries there are. -/
theorem wl_dLen (hg : o.guard = none) (m : Operand) (hop : o.op = Op.call { callee := Callee.builtin Builtin.len, args := #[m], argTypes := #[t] }) (ht : Try.prog.underlying t = some (.map 35 e)) (hm : a.eval m = .map (some b)) (hS : MapD w b n f S)
    (hK : wpList Try.prog ops Q rest (a.put o.dst (.int .i64 (S.length : Int))) w) : wpList Try.prog ops Q (o :: rest) a w := by
  obtain ⟨Dt, h1, h2, h3⟩ := hS
  refine wpList_len_own w hg m t hop 35 e ht RVv b n Dt hm h1 ?_
  rw [h3.size]
  exact hK
end
end Go.Proofs.Ytahbfdhjgnlmdaa

/- eachOnce: the walk. -/
namespace Go.Proofs.Ytahbfdhjgnlmdaa
open Go.RowKit Go.Maps
set_option linter.unusedSimpArgs false
set_option linter.unusedVariables false

theorem ringsOf_cons (v : VC) (r : List VC) : ringsOf (v :: r) = v.2.1.2.2.2 ++ ringsOf r := rfl
end Go.Proofs.Ytahbfdhjgnlmdaa

/- Form. -/
namespace Go.Proofs.Ytahbfdhjgnlmdaa
open Go.RowKit
set_option linter.unusedSimpArgs false
set_option linter.unusedVariables false

def formB (big b0 b1 b2 b3 b4 b5 b6 b7 : Bool) : Int :=
  if big then 3 else if !(b0 && b1 && b2 && b3) then 10 else if !(b4 && b5) then 4 else if !(b6 && b7) then 1 else 0
/-- What is wrong with a diagram. -/
def formD (Vs : List VC) (Es : List EC) : Int :=
  formB (decide (24 < Vs.length ∨ 40 < Es.length)) (riseF none (Vs.map (·.1))) (riseF none (Es.map (·.1))) (Vs.all turnOk) (onceF (edS Es []) (ringsOf Vs))
    (Vs.all (fun v => mayL v.2.2.1)) (Es.all (fun v => mayL v.2.1)) (Vs.all (fun v => mayA v.2.2.2)) (Es.all (fun v => mayA v.2.2))
end Go.Proofs.Ytahbfdhjgnlmdaa

/- The document's examples: loop, shown. -/
namespace Go.Proofs.Ytahbfdhjgnlmdaa
open Go.RowKit
set_option linter.unusedSimpArgs false
set_option linter.unusedVariables false

theorem RdS.of_whole {W : World} {g : Nat} {t : TypeId} {cs : List Value} {n size : Nat} (h : Whole W g t cs) (hl : cs.length = n * size) : RdS W W.heap.size size (some ⟨g, 0, none⟩) n n cs :=
  ⟨hl, fun e => (by cases e), Nat.le_refl _, fun a ha _ => (by obtain rfl := Option.some.inj ha; exact h.lt), fun a ha j u hu => (by
    obtain rfl := Option.some.inj ha
    rw [Addr.add_lit]
    simpa using h.cell hu)⟩
theorem RdS.no (W : World) (B size : Nat) : RdS W B size none 0 0 [] := ⟨by simp, fun _ => ⟨rfl, rfl⟩, Nat.le_refl _, fun a h => (by cases h), fun a h => (by cases h)⟩
end Go.Proofs.Ytahbfdhjgnlmdaa

/- few. -/
namespace Go.Proofs.Ytahbfdhjgnlmdaa
open Go.RowKit
set_option linter.unusedSimpArgs false
set_option linter.unusedVariables false

theorem info_vertex : (Try.prog.info? 38).map (fun i => (i.zero, i.size, i.bytes)) = some (some (.agg #[.int .i64 0, .int .i64 0, .slice none 0 0, .string { data := #[] }, .int .i64 0]), 5, 64) := by kernel_rfl
theorem info_edge : (Try.prog.info? 33).map (fun i => (i.zero, i.size, i.bytes)) = some (some (.agg #[.int .i64 0, .int .i64 0, .string { data := #[] }, .int .i64 0]), 4, 40) := by kernel_rfl
theorem info_partsD {o : Option TypeInfo} {z : Value} {s b : Nat} (h : o.map (fun i => (i.zero, i.size, i.bytes)) = some (some z, s, b)) : ∃ i, o = some i ∧ i.zero = some z ∧ i.size = s ∧ i.bytes = b := by
  cases o with
  | none => simp at h
  | some i => simp at h; exact ⟨i, rfl, h⟩
theorem Ow.low_ne {w W : World} {B size n g : Nat} {e : TypeId} {v : Value} {xs : List Value} (h : Ow w B e size v n xs W) (hg : g < B) : some g ≠ v.ownBlock := fun e => by
  have := (h.own.lt g e.symm).1
  omega
theorem Ow.set_far {w W : World} {B size n g i : Nat} {e : TypeId} {v : Value} {xs : List Value} (h : Ow w B e size v n xs W) (hne : some g ≠ v.ownBlock) (hg : w.heap.size ≤ g) (u : Value) : Ow w B e size v n xs (W.setCell ⟨g, i, none⟩ u) :=
  ⟨h.own.kept (row := some g) ⟨rfl, rfl, rfl, by simp [World.setCell], fun k _ hk => Below.heap_setCell _ _ _ _ (by
    rintro rfl
    exact hk rfl)⟩ (by first | exact hne | exact hne.symm | exact .inr hne | exact .inr hne.symm), h.below.setCell hg u, h.lo, by simpa [World.setCell] using h.hi⟩
theorem Whole.set_far' {W : World} {g h i : Nat} {t : TypeId} {cs : List Value} (hw : Whole W g t cs) (hne : g ≠ h) (u : Value) : Whole (W.setCell ⟨h, i, none⟩ u) g t cs :=
  hw.at_ (Below.heap_setCell _ _ _ _ hne)
def fewV (v : VC) : VC := if 30 < v.2.1.2.1 then (v.1, (v.2.1.1, 30, v.2.1.2.2.1, v.2.1.2.2.2.take 30), v.2.2) else v
theorem fewE_next (Es : List EC) (j : Nat) (v : EC) (h : Es[j]? = some v) : rowsV eC (Es.take j) ++ rowsV eC [v] = rowsV eC (Es.take (j + 1)) := by
  rw [← rowsV_app, List.take_add_one, h]
  simp
/-- Both rows are new, and not too long. -/
def FwNew (w : World) (A : Option Addr) (n c : Nat) (B : Option Addr) (m k : Nat) : Prop :=
  c ≤ maxLen ∧ k ≤ maxLen ∧ (∀ a, A = some a → 0 < n → w.heap.size ≤ a.block) ∧ (∀ a, B = some a → 0 < m → w.heap.size ≤ a.block)
theorem RdS.far_ {W : World} {B size n c g i : Nat} {A : Option Addr} {xs : List Value} (h : RdS W B size A n c xs) (hne : ∀ a, A = some a → 0 < n → a.block ≠ g) (u : Value) : RdS (W.setCell ⟨g, i, none⟩ u) B size A n c xs :=
  ⟨h.len, h.none_, h.le, h.low, fun a ha j x hx => (World.cell?_of_block (Below.heap_setCell _ _ _ _ (by
    rw [add_block]
    first | exact hne a ha (h.pos hx) | exact (hne a ha (h.pos hx)).symm))).trans (h.cell a ha j x hx)⟩
/-- Between two rounds: the edges' row grows. -/
structure FewB (w : World) (Vs : List VC) (Es : List EC) (A B : Option Addr) (n c m k b0 b1 b2 B2 N : Nat) (A1 : Option Addr) (c1 j : Nat) (v u : Value) (wr : World) : Prop where
  ow : Ow w B2 33 4 v j (rowsV eC (Es.take j)) wr
  x0 : Whole wr b0 25 [.slice A n c, .slice B m k]
  x1 : Whole wr b1 25 [.slice none 0 0, .slice none 0 0]
  x2 : Whole wr b2 25 [.slice A1 N c1, u]
  rv : RdS wr B2 5 A1 N c1 (rowsV vC ((Vs.take 30).map fewV))
section
variable {w wr wr' : World} {Vs : List VC} {Es : List EC} {A B A1 : Option Addr} {n c m k b0 b1 b2 B2 N c1 j : Nat} {v u : Value}
theorem FewB.below (h : FewB w Vs Es A B n c m k b0 b1 b2 B2 N A1 c1 j v u wr) (hb : Below wr.heap.size wr wr') : FewB w Vs Es A B n c m k b0 b1 b2 B2 N A1 c1 j v u wr' :=
  ⟨h.ow.up hb, h.x0.below hb, h.x1.below hb, h.x2.below hb, h.rv.up (hb.mono h.ow.hi) (Nat.le_refl _)⟩
/-- The row has grown. -/
theorem FewB.grow (h : FewB w Vs Es A B n c m k b0 b1 b2 B2 N A1 c1 j v u wr) {e : EC} (he : Es[j]? = some e) {v' : Value} (ho : Ow w B2 33 4 v' (j + 1) (rowsV eC (Es.take j) ++ eC e) wr') (hb : Below B2 wr wr') (h0 : b0 < B2) (h1 : b1 < B2) (h2 : b2 < B2) :
    FewB w Vs Es A B n c m k b0 b1 b2 B2 N A1 c1 (j + 1) v' u wr' :=
  ⟨by rw [← fewE_next Es j e he]; simpa [rowsV] using ho, h.x0.at_ (hb.block _ h0), h.x1.at_ (hb.block _ h1), h.x2.at_ (hb.block _ h2), h.rv.up hb (Nat.le_refl _)⟩
theorem FewB.store (h : FewB w Vs Es A B n c m k b0 b1 b2 B2 N A1 c1 j v u wr) (h02 : b0 ≠ b2) (h12 : b1 ≠ b2) (h2 : b2 < B2) (hl : w.heap.size ≤ b2) (hne : ∀ a, A1 = some a → 0 < N → a.block ≠ b2) :
    FewB w Vs Es A B n c m k b0 b1 b2 B2 N A1 c1 j v v (wr.setCell ⟨b2, 1, none⟩ v) :=
  ⟨h.ow.set_far (h.ow.low_ne h2) hl v, h.x0.set_far' h02 v, h.x1.set_far' h12 v, h.x2.set_ 1 v, h.rv.far_ hne v⟩
end
theorem RgOk.few {w : World} {v : VC} (h : RgOk w v.2.1) : RgOk w (fewV v).2.1 := by
  unfold fewV
  split
  · rename_i h30
    refine ⟨h.1, ?_⟩
    have := h.2.take_ 30 (by omega)
    rw [dartsV_rows, ← rowsV_take dC dC_len] at this
    show RdS w w.heap.size 3 v.2.1.1 30 v.2.1.2.2.1 (dartsV (v.2.1.2.2.2.take 30))
    rw [dartsV_rows]
    exact this
  · exact h
end Go.Proofs.Ytahbfdhjgnlmdaa

/- slices.Clone of vertices, edges, darts; cloneVertex. -/
namespace Go.Proofs.Ytahbfdhjgnlmdaa
open Go.RowKit
set_option linter.unusedSimpArgs false
set_option linter.unusedVariables false

theorem info_dartD : (Try.prog.info? 35).map (fun i => (i.zero, i.size, i.bytes)) = some (some (.agg #[.int .i64 0, .int .i64 0, .int .i64 0]), 3, 24) := by kernel_rfl
end Go.Proofs.Ytahbfdhjgnlmdaa

/- Names. -/
namespace Go.Proofs.Ytahbfdhjgnlmdaa
open Go.RowKit
set_option linter.unusedSimpArgs false
set_option linter.unusedVariables false

theorem info_idD : (Try.prog.info? 31).map (fun i => (i.zero, i.size, i.bytes)) = some (some (.agg #[.int .i64 0, .int .i64 0]), 2, 16) := by kernel_rfl
def idC (x : Int × Int) : List Value := [.int .i64 x.1, .int .i64 x.2]
theorem idC_len (x : Int × Int) : (idC x).length = 2 := rfl
theorem names_next {α : Type} (g : α → Int × Int) (P : List (Int × Int)) (L : List α) (j : Nat) (x : α) (h : L[j]? = some x) : rowsV idC (P ++ (L.take j).map g) ++ idC (g x) = rowsV idC (P ++ (L.take (j + 1)).map g) := by
  have : (L.take (j + 1)).map g = (L.take j).map g ++ [g x] := by rw [List.take_add_one, h]; simp
  have e : rowsV idC [g x] = idC (g x) := by simp [rowsV]
  rw [this, ← List.append_assoc, rowsV_app idC (P ++ (L.take j).map g) [g x], e]
end Go.Proofs.Ytahbfdhjgnlmdaa

/- At: the vertex in whose ring a dart stands. -/
namespace Go.Proofs.Ytahbfdhjgnlmdaa
open Go.RowKit
set_option linter.unusedSimpArgs false
set_option linter.unusedVariables false

theorem ret_whole2 {P : Program} {fn : Func} {R : Ending → World → Prop} {a : Act} {w : World} {p u : Tmp} {t : TypeId} (h : fn.results = #[.cell p t, .tmp u]) (g : Nat) {t' : TypeId} {cs : List Value} {d : TypeDesc} {v : Value}
    (hp : a.tmps.getD p undef = .pointer (some ⟨g, 0, none⟩)) (hv : a.tmps.getD u undef = v) (hW : Whole w g t' cs) (hu : P.underlying t = some d) (hd : d.isRow = true) (hi : (P.info? t).map (·.size) = some cs.length)
    (hdf : a.defers = []) (hR : R (.returned (.tuple #[.agg cs.toArray, v])) w) : bodyPost P fn R .ret a w := by
  refine bodyPost_ret (v := .tuple #[.agg cs.toArray, v]) ?_ hdf hR
  have hl := run_loadVar_mid (P := P) w g 0 t cs d (fun j v hv => by
    have := hW.cell hv
    simpa using this) hu hd hi
  rw [results_cell_tmp h, hp, hv]
  simp [asAddr, Result.andThen, hl]
def atV (Vs : List VC) (x : D) : (Int × Int) × Bool := match Vs.find? (fun v => decide (x ∈ v.2.1.2.2.2)) with | some v => (v.1, true) | none => ((0, 0), false)
theorem atV_yes (v : VC) (r : List VC) (x : D) (h : x ∈ v.2.1.2.2.2) : atV (v :: r) x = (v.1, true) := by simp [atV, h]
theorem atV_no (v : VC) (r : List VC) (x : D) (h : ¬ x ∈ v.2.1.2.2.2) : atV (v :: r) x = atV r x := by simp [atV, h]
end Go.Proofs.Ytahbfdhjgnlmdaa

/- find, Vertex, Edge. -/
namespace Go.Proofs.Ytahbfdhjgnlmdaa
open Go.RowKit
set_option linter.unusedSimpArgs false
set_option linter.unusedVariables false


def fnd {α : Type} (nm : α → Int × Int) (z : α) (L : List α) (x : Int × Int) : α × Bool := match L.find? (fun v => decide (nm v = x)) with | some v => (v, true) | none => (z, false)
theorem fnd_yes {α : Type} (nm : α → Int × Int) (z v : α) (r : List α) (x : Int × Int) (h : nm v = x) : fnd nm z (v :: r) x = (v, true) := by simp [fnd, h]
theorem fnd_no {α : Type} (nm : α → Int × Int) (z v : α) (r : List α) (x : Int × Int) (h : ¬ nm v = x) : fnd nm z (v :: r) x = fnd nm z r x := by simp [fnd, h]
def zE : EC := ((0, 0), ⟨#[]⟩, 0)
def fndE (L : List EC) (x : Int × Int) := fnd (fun v : EC => v.1) zE L x
end Go.Proofs.Ytahbfdhjgnlmdaa

/- Vertex, Same of the program. -/
namespace Go.Proofs.Ytahbfdhjgnlmdaa
open Go.RowKit
set_option linter.unusedSimpArgs false
set_option linter.unusedVariables false


/-- What a vertex is, wherever its ring lies. -/
def vS (v : VC) : (Int × Int) × List D × ByteArray × Int := (v.1, v.2.1.2.2.2, v.2.2.1, v.2.2.2)
end Go.Proofs.Ytahbfdhjgnlmdaa

/- The document's own Index, Turn, Next, Prev of rings. -/
namespace Go.Proofs.Ytahbfdhjgnlmdaa
open Go.RowKit
set_option linter.unusedSimpArgs false

theorem turnD_get (L : List D) (i : Nat) (h : i < L.length) : (turnD L).getD i (0, 0, 0) = L.getD ((leastI L L.length + i) % L.length) (0, 0, 0) := by
  have hm : leastI L L.length < L.length := leastI_lt L _ (by omega)
  unfold turnD
  generalize leastI L L.length = m at *
  simp only [List.getD_eq_getElem?_getD]
  congr 1
  rcases Nat.lt_or_ge (m + i) L.length with h1 | h1
  · rw [List.getElem?_append_left (by simp; omega), List.getElem?_drop, Nat.mod_eq_of_lt h1]
  · rw [List.getElem?_append_right (by simp; omega), List.getElem?_take, List.length_drop, if_pos (by omega)]
    congr 1
    rw [Nat.mod_eq_sub_mod h1, Nat.mod_eq_of_lt (by omega)]
    omega
theorem take_snocD (L : List D) (k : Nat) (h : k < L.length) : L.take (k + 1) = L.take k ++ [L.getD k (0, 0, 0)] := by
  rw [List.take_succ_eq_append_getElem h]
  simp [h]

set_option maxRecDepth 100000 in
set_option maxHeartbeats 1000000 in
theorem rfturn_any (A : Option Addr) (n c : Nat) (L : List D) (w : World) (h : RdS w w.heap.size 3 A n c (dartsV L)) (hn : n ≤ 5864062014634) :
    Calls Try.prog 36 #[.slice A n c] w (GivesR w (turnD L)) := by
  obtain ⟨i0, hi, hz0, hz1, hz2⟩ := info_parts info_dart
  have HR := Lib.hid h
  have hl := h.dlen
  subst hl
  clear h
  go_enter Try.func36, Try.ntmps36
  go_wp2
  go_loopw [3, 4] (fun lv i wr => ∃ k : Nat, k ≤ L.length ∧ i = .int .i64 k ∧ lv = .int .i64 (leastI L k : Int) ∧ Below w.heap.size w wr) (fun _ i _ => L.length - (intOf i).toNat)
  case atStart => exact ⟨0, Nat.zero_le _, rfl, rfl, Below.refl _ _⟩
  case round =>
    obtain ⟨k2, hk2, rfl, rfl, hbw⟩ := hrel
    have HBw := Lib.hid hbw
    by_cases hlt2 : k2 < L.length
    · obtain ⟨b, off, rfl, hb, hc⟩ := (HR.out.up hbw hbw.size).darts (by omega)
      obtain ⟨d1, d2, d3⟩ := hc k2 hlt2
      have hlm := leastI_le L k2
      have hlm2 : leastI L k2 < L.length := by omega
      obtain ⟨e1, e2, e3⟩ := hc (leastI L k2) hlm2
      have hs : leastI L (k2 + 1) = if ordT (L.getD k2 (0, 0, 0)) (L.getD (leastI L k2) (0, 0, 0)) < 0 then k2 else leastI L k2 := rfl
      obtain ⟨m, gm⟩ : ∃ v, leastI L k2 = v := ⟨_, rfl⟩
      rw [gm] at e1 e2 e3 hlm hlm2 hs ⊢
      obtain ⟨x, gx⟩ : ∃ v, L.getD k2 (0, 0, 0) = v := ⟨_, rfl⟩
      obtain ⟨y, gy⟩ : ∃ v, L.getD m (0, 0, 0) = v := ⟨_, rfl⟩
      rw [gx] at d1 d2 d3 hs
      rw [gy] at e1 e2 e3 hs
      have HOr := rorderdart_any x.1 x.2.1 x.2.2 y.1 y.2.1 y.2.2
      have ho : ordD x.1 x.2.1 x.2.2 y.1 y.2.1 y.2.2 = ordT x y := rfl
      obtain ⟨ov, gov⟩ : ∃ v, ordT x y = v := ⟨_, rfl⟩
      rw [ho, gov] at HOr
      rw [gov] at hs
      have HOr' := Lib.hid HOr
      have HS := Lib.hid hs
      clear hc gm gx gy ho gov HOr hs
      go_upto_region 5 with fail
      have g0 : ∀ w', Kept Nil_ wr.drew w' → w'.cell? ⟨b, off + k2 * 3, none⟩ = some (.int .i64 x.1) := fun w' h => h.nil_cell d1
      have g1 : ∀ w', Kept Nil_ wr.drew w' → w'.cell? ⟨b, off + k2 * 3 + 1, none⟩ = some (.int .i64 x.2.1) := fun w' h => h.nil_cell d2
      have g2 : ∀ w', Kept Nil_ wr.drew w' → w'.cell? ⟨b, off + k2 * 3 + 2, none⟩ = some (.int .i64 x.2.2) := fun w' h => h.nil_cell d3
      have g3 : ∀ w', Kept Nil_ wr.drew w' → w'.cell? ⟨b, off + m * 3, none⟩ = some (.int .i64 y.1) := fun w' h => h.nil_cell e1
      have g4 : ∀ w', Kept Nil_ wr.drew w' → w'.cell? ⟨b, off + m * 3 + 1, none⟩ = some (.int .i64 y.2.1) := fun w' h => h.nil_cell e2
      have g5 : ∀ w', Kept Nil_ wr.drew w' → w'.cell? ⟨b, off + m * 3 + 2, none⟩ = some (.int .i64 y.2.2) := fun w' h => h.nil_cell e3
      have hE : RowKit.Hid (Below w.heap.size w wr.drew) := HBw.out.drew
      clear hbw
      by_cases ho : ov < 0
      · rw [if_pos ho] at HS
        refine wp_region_reg (Nil_) (by kernel_rfl) ?_
        apply wpR_next 0 (some 13)
        · simp only [List.getElem?_toArray, List.getElem?_cons_succ, List.getElem?_cons_zero]; exact rfl
        · rfl
        · kernel_rfl
        · kernel_rfl
        · kernel_rfl
        · exact fun _ _ _ _ h => h
        apply Exists.intro
        apply And.intro
        · apply yr_run; rfl; intro w' hw'; go_simp; (try with_reducible rfl)
        simp only [Act.put, List.setIfInBounds_toArray, List.set_cons_zero, List.set_cons_succ]
        apply wpR_next 1 (some 14)
        · simp only [List.getElem?_toArray, List.getElem?_cons_succ, List.getElem?_cons_zero]; exact rfl
        · rfl
        · kernel_rfl
        · kernel_rfl
        · kernel_rfl
        · exact fun _ _ _ _ h => h
        apply Exists.intro
        apply And.intro
        · apply yr_run; rfl; intro w' hw'; go_simp; (try with_reducible rfl)
        simp only [Act.put, List.setIfInBounds_toArray, List.set_cons_zero, List.set_cons_succ]
        apply wpR_next 2 (some 15)
        · simp only [List.getElem?_toArray, List.getElem?_cons_succ, List.getElem?_cons_zero]; exact rfl
        · rfl
        · kernel_rfl
        · kernel_rfl
        · kernel_rfl
        · exact fun _ _ _ _ h => h
        apply Exists.intro
        apply And.intro
        · apply yr_run; rfl; intro w' hw'; go_simp; (try with_reducible rfl)
        simp only [Act.put, List.setIfInBounds_toArray, List.set_cons_zero, List.set_cons_succ]
        apply wpR_next 3 (some 16)
        · simp only [List.getElem?_toArray, List.getElem?_cons_succ, List.getElem?_cons_zero]; exact rfl
        · rfl
        · kernel_rfl
        · kernel_rfl
        · kernel_rfl
        · exact fun _ _ _ _ h => h
        apply Exists.intro
        apply And.intro
        · apply yr_run; rfl; intro w' hw'; go_simp; (try with_reducible rfl)
        simp only [Act.put, List.setIfInBounds_toArray, List.set_cons_zero, List.set_cons_succ]
        apply wpR_next 4 (some 17)
        · simp only [List.getElem?_toArray, List.getElem?_cons_succ, List.getElem?_cons_zero]; exact rfl
        · rfl
        · kernel_rfl
        · kernel_rfl
        · kernel_rfl
        · exact fun _ _ _ _ h => h
        apply Exists.intro
        apply And.intro
        · apply yr_run; rfl; intro w' hw'; go_simp; (try with_reducible rfl)
        simp only [Act.put, List.setIfInBounds_toArray, List.set_cons_zero, List.set_cons_succ]
        apply wpR_next 5 (some 18)
        · simp only [List.getElem?_toArray, List.getElem?_cons_succ, List.getElem?_cons_zero]; exact rfl
        · rfl
        · kernel_rfl
        · kernel_rfl
        · kernel_rfl
        · exact fun _ _ _ _ h => h
        apply Exists.intro
        apply And.intro
        · apply yr_run; rfl; intro w' hw'; go_simp; (try with_reducible rfl)
        simp only [Act.put, List.setIfInBounds_toArray, List.set_cons_zero, List.set_cons_succ]
        apply wpR_next 6 (some 19)
        · simp only [List.getElem?_toArray, List.getElem?_cons_succ, List.getElem?_cons_zero]; exact rfl
        · rfl
        · kernel_rfl
        · kernel_rfl
        · kernel_rfl
        · exact fun _ _ _ _ h => h
        apply Exists.intro
        apply And.intro
        · apply yr_run; rfl; intro w' hw'; go_simp; (try with_reducible rfl)
        simp only [Act.put, List.setIfInBounds_toArray, List.set_cons_zero, List.set_cons_succ]
        apply wpR_next 7 (some 20)
        · simp only [List.getElem?_toArray, List.getElem?_cons_succ, List.getElem?_cons_zero]; exact rfl
        · rfl
        · kernel_rfl
        · kernel_rfl
        · kernel_rfl
        · exact fun _ _ _ _ h => h
        apply Exists.intro
        apply And.intro
        · apply yr_run; rfl; intro w' hw'; go_simp; (try with_reducible rfl)
        simp only [Act.put, List.setIfInBounds_toArray, List.set_cons_zero, List.set_cons_succ]
        apply wpR_next 8 (some 21)
        · simp only [List.getElem?_toArray, List.getElem?_cons_succ, List.getElem?_cons_zero]; exact rfl
        · rfl
        · kernel_rfl
        · kernel_rfl
        · kernel_rfl
        · exact fun _ _ _ _ h => h
        apply Exists.intro
        apply And.intro
        · apply yr_call; rfl; rotate_left; intro w' hw'; exact HOr'.out w'; intro w'; go_simp
        simp only [Act.put, List.setIfInBounds_toArray, List.set_cons_zero, List.set_cons_succ]
        apply wpR_next 9 (some 22)
        · simp only [List.getElem?_toArray, List.getElem?_cons_succ, List.getElem?_cons_zero]; exact rfl
        · rfl
        · kernel_rfl
        · kernel_rfl
        · kernel_rfl
        · exact fun _ _ _ _ h => h
        apply Exists.intro
        apply And.intro
        · apply yr_run; rfl; intro w' hw'; go_simp; (try with_reducible rfl)
        simp only [Act.put, List.setIfInBounds_toArray, List.set_cons_zero, List.set_cons_succ]
        refine wpR_done (by kernel_rfl) ?_ _
        intro w' hw'
        have hE2 : RowKit.Hid (Below w.heap.size w w') := hE.out.trans (hw'.mono hE.out.size)
        clear g0 g1 g2 g3 g4 g5 hw' d1 d2 d3 e1 e2 e3
        go_wp2
        go_roundw
        case rel => exact ⟨k2 + 1, by omega, by go_num, by rw [HS.out], hE2.out⟩
        case measure => simp [intOf]; omega
      · rw [if_neg ho] at HS
        refine wp_region_reg (Nil_) (by kernel_rfl) ?_
        apply wpR_next 0 (some 13)
        · simp only [List.getElem?_toArray, List.getElem?_cons_succ, List.getElem?_cons_zero]; exact rfl
        · rfl
        · kernel_rfl
        · kernel_rfl
        · kernel_rfl
        · exact fun _ _ _ _ h => h
        apply Exists.intro
        apply And.intro
        · apply yr_run; rfl; intro w' hw'; go_simp; (try with_reducible rfl)
        simp only [Act.put, List.setIfInBounds_toArray, List.set_cons_zero, List.set_cons_succ]
        apply wpR_next 1 (some 14)
        · simp only [List.getElem?_toArray, List.getElem?_cons_succ, List.getElem?_cons_zero]; exact rfl
        · rfl
        · kernel_rfl
        · kernel_rfl
        · kernel_rfl
        · exact fun _ _ _ _ h => h
        apply Exists.intro
        apply And.intro
        · apply yr_run; rfl; intro w' hw'; go_simp; (try with_reducible rfl)
        simp only [Act.put, List.setIfInBounds_toArray, List.set_cons_zero, List.set_cons_succ]
        apply wpR_next 2 (some 15)
        · simp only [List.getElem?_toArray, List.getElem?_cons_succ, List.getElem?_cons_zero]; exact rfl
        · rfl
        · kernel_rfl
        · kernel_rfl
        · kernel_rfl
        · exact fun _ _ _ _ h => h
        apply Exists.intro
        apply And.intro
        · apply yr_run; rfl; intro w' hw'; go_simp; (try with_reducible rfl)
        simp only [Act.put, List.setIfInBounds_toArray, List.set_cons_zero, List.set_cons_succ]
        apply wpR_next 3 (some 16)
        · simp only [List.getElem?_toArray, List.getElem?_cons_succ, List.getElem?_cons_zero]; exact rfl
        · rfl
        · kernel_rfl
        · kernel_rfl
        · kernel_rfl
        · exact fun _ _ _ _ h => h
        apply Exists.intro
        apply And.intro
        · apply yr_run; rfl; intro w' hw'; go_simp; (try with_reducible rfl)
        simp only [Act.put, List.setIfInBounds_toArray, List.set_cons_zero, List.set_cons_succ]
        apply wpR_next 4 (some 17)
        · simp only [List.getElem?_toArray, List.getElem?_cons_succ, List.getElem?_cons_zero]; exact rfl
        · rfl
        · kernel_rfl
        · kernel_rfl
        · kernel_rfl
        · exact fun _ _ _ _ h => h
        apply Exists.intro
        apply And.intro
        · apply yr_run; rfl; intro w' hw'; go_simp; (try with_reducible rfl)
        simp only [Act.put, List.setIfInBounds_toArray, List.set_cons_zero, List.set_cons_succ]
        apply wpR_next 5 (some 18)
        · simp only [List.getElem?_toArray, List.getElem?_cons_succ, List.getElem?_cons_zero]; exact rfl
        · rfl
        · kernel_rfl
        · kernel_rfl
        · kernel_rfl
        · exact fun _ _ _ _ h => h
        apply Exists.intro
        apply And.intro
        · apply yr_run; rfl; intro w' hw'; go_simp; (try with_reducible rfl)
        simp only [Act.put, List.setIfInBounds_toArray, List.set_cons_zero, List.set_cons_succ]
        apply wpR_next 6 (some 19)
        · simp only [List.getElem?_toArray, List.getElem?_cons_succ, List.getElem?_cons_zero]; exact rfl
        · rfl
        · kernel_rfl
        · kernel_rfl
        · kernel_rfl
        · exact fun _ _ _ _ h => h
        apply Exists.intro
        apply And.intro
        · apply yr_run; rfl; intro w' hw'; go_simp; (try with_reducible rfl)
        simp only [Act.put, List.setIfInBounds_toArray, List.set_cons_zero, List.set_cons_succ]
        apply wpR_next 7 (some 20)
        · simp only [List.getElem?_toArray, List.getElem?_cons_succ, List.getElem?_cons_zero]; exact rfl
        · rfl
        · kernel_rfl
        · kernel_rfl
        · kernel_rfl
        · exact fun _ _ _ _ h => h
        apply Exists.intro
        apply And.intro
        · apply yr_run; rfl; intro w' hw'; go_simp; (try with_reducible rfl)
        simp only [Act.put, List.setIfInBounds_toArray, List.set_cons_zero, List.set_cons_succ]
        apply wpR_next 8 (some 21)
        · simp only [List.getElem?_toArray, List.getElem?_cons_succ, List.getElem?_cons_zero]; exact rfl
        · rfl
        · kernel_rfl
        · kernel_rfl
        · kernel_rfl
        · exact fun _ _ _ _ h => h
        apply Exists.intro
        apply And.intro
        · apply yr_call; rfl; rotate_left; intro w' hw'; exact HOr'.out w'; intro w'; go_simp
        simp only [Act.put, List.setIfInBounds_toArray, List.set_cons_zero, List.set_cons_succ]
        apply wpR_next 9 (some 22)
        · simp only [List.getElem?_toArray, List.getElem?_cons_succ, List.getElem?_cons_zero]; exact rfl
        · rfl
        · kernel_rfl
        · kernel_rfl
        · kernel_rfl
        · exact fun _ _ _ _ h => h
        apply Exists.intro
        apply And.intro
        · apply yr_run; rfl; intro w' hw'; go_simp; (try with_reducible rfl)
        simp only [Act.put, List.setIfInBounds_toArray, List.set_cons_zero, List.set_cons_succ]
        refine wpR_done (by kernel_rfl) ?_ _
        intro w' hw'
        have hE2 : RowKit.Hid (Below w.heap.size w w') := hE.out.trans (hw'.mono hE.out.size)
        clear g0 g1 g2 g3 g4 g5 hw' d1 d2 d3 e1 e2 e3
        go_wp2
        go_roundw
        case rel => exact ⟨k2 + 1, by omega, by go_num, by rw [HS.out], hE2.out⟩
        case measure => simp [intOf]; omega
    · have hkl : k2 = L.length := by omega
      subst hkl
      have hlm := leastI_le L L.length
      have ht := turnD_get L
      have hlen := turnD_length L
      obtain ⟨R, gR⟩ : ∃ v, turnD L = v := ⟨_, rfl⟩
      obtain ⟨m, gm⟩ : ∃ v, leastI L L.length = v := ⟨_, rfl⟩
      rw [gm, gR] at ht
      rw [gR] at hlen
      rw [gm] at hlm ⊢
      have GR := Lib.hid gR
      have HT := Lib.hid ht
      have HLen := Lib.hid hlen
      clear ht gm gR hlen
      obtain ⟨W1, rfl⟩ : ∃ x : World, x = wr := ⟨_, rfl⟩
      have HO : RowKit.Hid (Ow w w.heap.size 35 3 (.slice (some ⟨W1.heap.size, 0, none⟩) 0 0) 0 [] (W1.alloc (.cells #[] 35))) := Ow.new_ (cs := #[]) HBw.out (Nat.le_refl _) HBw.out.size (Nat.zero_le _) rfl
      clear hbw
      go_wp2
      go_loopw [5, 6] (fun v i wr => ∃ k : Nat, k ≤ L.length ∧ i = .int .i64 k ∧ Ow w w.heap.size 35 3 v (R.take k).length (dartsV (R.take k)) wr) (fun _ i _ => L.length - (intOf i).toNat)
      case atStart => exact ⟨0, Nat.zero_le _, rfl, HO.out⟩
      case round =>
        clear HO
        obtain ⟨k, hk, rfl, how⟩ := hrel
        have HO := Lib.hid how
        by_cases hlt : k < L.length
        · obtain ⟨b, off, rfl, hb, hc⟩ := (HR.out.up how.below how.below.size).darts (by omega)
          have hj : (m + k) % L.length < L.length := Nat.mod_lt _ (by omega)
          have hmod : ((m : Int) + (k : Int)) % (L.length : Int) = (((m + k) % L.length : Nat) : Int) := by rw [Int.natCast_emod, Int.natCast_add]
          have hx := HT.out k hlt
          obtain ⟨j, gj⟩ : ∃ v, (m + k) % L.length = v := ⟨_, rfl⟩
          rw [gj] at hj hmod hx
          obtain ⟨c1, c2, c3⟩ := hc j hj
          obtain ⟨x, gx⟩ : ∃ v, L.getD j (0, 0, 0) = v := ⟨_, rfl⟩
          rw [gx] at c1 c2 c3 hx
          have HX := Lib.hid hx
          have HTk := Lib.hid (take_snocD R k (by rw [HLen.out]; exact hlt))
          have hlk : (R.take k).length ≤ 5864062014634 := by
            have := List.length_take_le k R
            omega
          clear hc how gj gx hx
          go_wp2_with (first
            | (at_builtin
               refine wpList_push rfl (.tmp 31) (.tmp 41) _ rfl _ 35 i0 _ 3 24 Try.underlying36 hi hz0 hz1 hz2 rfl (by decide) _ _ _ rfl (by exact HO.out.up (below1 _ _)) _ (some ⟨wr.heap.size, 0, none⟩) 1 1 (dartsV [x]) rfl (by exact RdS.whole3 (L := [x]) (Whole.new_ _ _ _)) (dartsV_one [x]) (by unfold maxLen; omega) (by omega) ?_
               intro v1 w1 how1 hb1
               have HO1 := Lib.hid how1
               clear how1 hb1))
          go_roundw
          case rel =>
            refine ⟨k + 1, by omega, by go_num, ?_⟩
            rw [HTk.out, HX.out, List.length_append, dartsV_app]
            exact HO1.out
          case measure => simp [intOf]; omega
        · have htk : R.take k = R := List.take_of_length_le (by rw [HLen.out]; omega)
          rw [htk] at HO
          clear how htk
          obtain ⟨A1, c1, hv, hr1⟩ := HO.out.rds
          subst hv
          have HR1 := Lib.hid hr1
          clear hr1
          go_wp2
          go_ret
          rw [GR.out]
          exact ⟨A1, c1, rfl, HR1.out, HO.out.below⟩
end Go.Proofs.Ytahbfdhjgnlmdaa

/- The document's MayAttr, Vertex, Edge, At, times. -/
namespace Go.Proofs.Ytahbfdhjgnlmdaa
open Go.RowKit
set_option linter.unusedSimpArgs false
set_option linter.unusedVariables false

set_option maxRecDepth 100000 in
theorem rmayattr_any (n : Int) : Pure 35 #[.int .i64 n] (.bool (mayA n)) := fun w => by
  unfold mayA
  by_cases h1 : -1099511627776 ≤ n
  · by_cases h2 : n ≤ 1099511627776
    · rw [decide_eq_true ⟨h1, h2⟩]
      go_enter Try.func35, Try.ntmps35
      go_wp2
      go_ret
      exact ⟨rfl, Below.refl _ _⟩
    · rw [decide_eq_false (fun h => h2 h.2)]
      go_enter Try.func35, Try.ntmps35
      go_wp2
      go_ret
      exact ⟨rfl, Below.refl _ _⟩
  · rw [decide_eq_false (fun h => h1 h.1)]
    go_enter Try.func35, Try.ntmps35
    go_wp2
    go_ret
    exact ⟨rfl, Below.refl _ _⟩
set_option maxRecDepth 100000 in
set_option maxHeartbeats 4000000 in
theorem rfindE (A : Option Addr) (n c : Nat) (Vs : List VC) (B : Option Addr) (m k : Nat) (Es : List EC) (x1 x2 : Int) (w : World) (h : RdS w w.heap.size 4 B m k (rowsV eC Es)) (hn : m ≤ 140737488355328) :
    Calls Try.prog 48 #[.agg #[.slice A n c, .slice B m k], .agg #[.int .i64 x1, .int .i64 x2]] w fun e w' => e = .returned (.tuple #[.agg (eC (fndE Es (x1, x2)).1).toArray, .bool (fndE Es (x1, x2)).2]) ∧ Below w.heap.size w w' := by
  have H := Lib.hid h
  have Hl := Lib.hid (h.rlen eC_len (by decide))
  obtain ⟨⟨r, ok⟩, gr⟩ : ∃ z, fndE Es (x1, x2) = z := ⟨_, rfl⟩
  rw [gr]
  have HG := Lib.hid gr
  clear h gr
  go_enter Try.func48, Try.ntmps48
  go_wp2
  have hx0 : Whole (((w.alloc (.cells #[.slice A n c, .slice B m k] 25)).alloc (.cells #[.int .i64 x1, .int .i64 x2] 31)).alloc (.cells #[.int .i64 0, .int .i64 0, .string { data := #[] }, .int .i64 0] 33)) (w.heap.size) 25 [.slice A n c, .slice B m k] := (((Whole.new_ w 25 [.slice A n c, .slice B m k]).alloc (.cells #[.int .i64 x1, .int .i64 x2] 31)).alloc (.cells #[.int .i64 0, .int .i64 0, .string { data := #[] }, .int .i64 0] 33))
  have hx1 : Whole (((w.alloc (.cells #[.slice A n c, .slice B m k] 25)).alloc (.cells #[.int .i64 x1, .int .i64 x2] 31)).alloc (.cells #[.int .i64 0, .int .i64 0, .string { data := #[] }, .int .i64 0] 33)) (w.heap.size + 1) 31 [.int .i64 x1, .int .i64 x2] := ((Whole.new2 (w := (w.alloc (.cells #[.slice A n c, .slice B m k] 25))) (by simp)).alloc (.cells #[.int .i64 0, .int .i64 0, .string { data := #[] }, .int .i64 0] 33))
  have hx2 : Whole (((w.alloc (.cells #[.slice A n c, .slice B m k] 25)).alloc (.cells #[.int .i64 x1, .int .i64 x2] 31)).alloc (.cells #[.int .i64 0, .int .i64 0, .string { data := #[] }, .int .i64 0] 33)) (w.heap.size + 1 + 1) 33 [.int .i64 0, .int .i64 0, .string { data := #[] }, .int .i64 0] := (Whole.new2 (w := ((w.alloc (.cells #[.slice A n c, .slice B m k] 25)).alloc (.cells #[.int .i64 x1, .int .i64 x2] 31))) (by simp))
  have hbl : Below w.heap.size w (((w.alloc (.cells #[.slice A n c, .slice B m k] 25)).alloc (.cells #[.int .i64 x1, .int .i64 x2] 31)).alloc (.cells #[.int .i64 0, .int .i64 0, .string { data := #[] }, .int .i64 0] 33)) := (bel_al (bel_al (below1 w (.cells #[.slice A n c, .slice B m k] 25)) (.cells #[.int .i64 x1, .int .i64 x2] 31)) (.cells #[.int .i64 0, .int .i64 0, .string { data := #[] }, .int .i64 0] 33))
  have hsz : w.heap.size + 1 + 1 + 1 ≤ ((((w.alloc (.cells #[.slice A n c, .slice B m k] 25)).alloc (.cells #[.int .i64 x1, .int .i64 x2] 31)).alloc (.cells #[.int .i64 0, .int .i64 0, .string { data := #[] }, .int .i64 0] 33))).heap.size := by simp
  obtain ⟨W0, gW0⟩ : ∃ z, (((w.alloc (.cells #[.slice A n c, .slice B m k] 25)).alloc (.cells #[.int .i64 x1, .int .i64 x2] 31)).alloc (.cells #[.int .i64 0, .int .i64 0, .string { data := #[] }, .int .i64 0] 33)) = z := ⟨_, rfl⟩
  rw [gW0] at hx0 hx1 hx2 hbl hsz
  obtain ⟨b2, gb2⟩ : ∃ z, w.heap.size + 1 + 1 = z := ⟨_, rfl⟩
  rw [gb2] at hx2
  obtain ⟨b1, gb1⟩ : ∃ z, w.heap.size + 1 = z := ⟨_, rfl⟩
  rw [gb1] at hx1
  obtain ⟨b0, gb0⟩ : ∃ z, w.heap.size = z := ⟨_, rfl⟩
  rw [gb0] at hx0
  have HX0 := Lib.hid hx0
  have HX1 := Lib.hid hx1
  have HX2 := Lib.hid hx2
  have HB0 := Lib.hid hbl
  have HS0 := Lib.hid hsz
  have Gb0 := Lib.hid gb0
  have Lb0 : RowKit.Hid (w.heap.size ≤ b0) := Lib.hid (by omega)
  have Gb1 := Lib.hid gb1
  have Lb1 : RowKit.Hid (w.heap.size ≤ b1) := Lib.hid (by omega)
  have Gb2 := Lib.hid gb2
  have Lb2 : RowKit.Hid (w.heap.size ≤ b2) := Lib.hid (by omega)
  have N01 : RowKit.Hid (b0 ≠ b1) := Lib.hid (by omega)
  have N02 : RowKit.Hid (b0 ≠ b2) := Lib.hid (by omega)
  have N12 : RowKit.Hid (b1 ≠ b2) := Lib.hid (by omega)
  rw [gW0, gb2, gb1, gb0]
  clear gW0 hbl hsz hx0 hx1 hx2 gb0 gb1 gb2
  go_loopw [6] (fun si wr => ∃ j : Nat, j ≤ m ∧ si = .int .i64 j ∧ RowKit.Hid (Below w.heap.size w wr) ∧ RowKit.Hid (Whole wr b0 25 [.slice A n c, .slice B m k]) ∧ RowKit.Hid (Whole wr b1 31 [.int .i64 x1, .int .i64 x2]) ∧ RowKit.Hid (Whole wr b2 33 [.int .i64 0, .int .i64 0, .string { data := #[] }, .int .i64 0]) ∧ RowKit.Hid (fndE (Es.drop j) (x1, x2) = (r, ok))) (fun si _ => m - (intOf si).toNat)
  case atStart => exact ⟨0, by omega, rfl, HB0, HX0, HX1, HX2, HG⟩
  case round =>
    clear HB0 HX0 HX1 HX2 HG
    obtain ⟨j, hj, rfl, HB, HX0, HX1, HX2, HG⟩ := hrel
    obtain ⟨wo, gwo⟩ : ∃ z, wr = z := ⟨_, rfl⟩
    rw [gwo] at HB HX0 HX1 HX2 ⊢
    clear gwo
    by_cases hjn : j < m
    · obtain ⟨x, hx⟩ : ∃ x, Es[j]? = some x := ⟨_, List.getElem?_eq_getElem (by have := Hl.out; omega)⟩
      have hdr : Es.drop j = x :: Es.drop (j + 1) := by
        rw [List.drop_eq_getElem_cons (List.getElem?_eq_some_iff.1 hx).1, (List.getElem?_eq_some_iff.1 hx).2]
      have hg2 := HG.out
      rw [hdr] at hg2
      have HG2 := Lib.hid hg2
      obtain ⟨bb, off, rfl, hbB, hpl⟩ := H.out.place eC_len (by decide) (by omega)
      have Hbo : RowKit.Hid (bb < wo.heap.size) := Lib.hid (Nat.lt_of_lt_of_le hbB HB.out.size)
      have hbw := HB.out
      have q0 := hpl j _ hx 0 _ rfl
      have q1 := hpl j _ hx 1 _ rfl
      have q2 := hpl j _ hx 2 _ rfl
      have q3 := hpl j _ hx 3 _ rfl
      simp only [Addr.add_lit, Nat.add_zero] at q0 q1 q2 q3
      have l0 := (hbw.cell (p := ⟨bb, off + j * 4, none⟩) hbB).trans q0
      have l1 := (hbw.cell (p := ⟨bb, off + j * 4 + 1, none⟩) hbB).trans q1
      have l2 := (hbw.cell (p := ⟨bb, off + j * 4 + 2, none⟩) hbB).trans q2
      have l3 := (hbw.cell (p := ⟨bb, off + j * 4 + 3, none⟩) hbB).trans q3
      clear hbw q0 q1 q2 q3
      obtain ⟨⟨i1, i2⟩, lb, at_⟩ := x
      have HE := Lib.hid (And.intro l0 (And.intro l1 (And.intro l2 l3)))
      have cb := HX0.out.cell (i := 1) rfl
      clear hx hdr hg2 hpl hbB HG
      have ldl0 := l0
      go_upto_region 4 with fail
      clear cb ldl0
      have ldb : ∀ w', Kept Nil_ wo.drew w' → w'.cell? ⟨b0, 1, none⟩ = some (.slice (some ⟨bb, off, none⟩) m k) := fun w' h => h.nil_cell (HX0.out.dr.cell (i := 1) rfl)
      have ldx : ∀ w', Kept Nil_ wo.drew w' → w'.cell? ⟨b1, 0, none⟩ = some (.int .i64 x1) := fun w' h => h.nil_cell (HX1.out.dr.cell (i := 0) rfl)
      have ldy : ∀ w', Kept Nil_ wo.drew w' → w'.cell? ⟨b1, 1, none⟩ = some (.int .i64 x2) := fun w' h => h.nil_cell (HX1.out.dr.cell (i := 1) rfl)
      have lde : ∀ w', Kept Nil_ wo.drew w' → w'.cell? ⟨bb, off + j * 4, none⟩ = some (.int .i64 i1) := fun w' h => h.nil_cell (l0)
      have ldf : ∀ w', Kept Nil_ wo.drew w' → w'.cell? ⟨bb, off + j * 4 + 1, none⟩ = some (.int .i64 i2) := fun w' h => h.nil_cell (l1)
      clear l0 l1 l2 l3
      have heq := fun W => eq_id i1 i2 x1 x2 W
      obtain ⟨bq, gbq⟩ : ∃ z, (i1 == x1 && i2 == x2) = z := ⟨_, rfl⟩
      rw [gbq] at heq
      have Gbq := Lib.hid gbq
      clear gbq
      refine wp_region_reg (Nil_) (by kernel_rfl) ?_
      apply wpR_next 0 (some 14)
      · simp only [List.getElem?_toArray, List.getElem?_cons_succ, List.getElem?_cons_zero]; exact rfl
      · rfl
      · kernel_rfl
      · kernel_rfl
      · kernel_rfl
      · exact fun _ _ _ _ h => h
      apply Exists.intro
      apply And.intro
      · apply yr_run; rfl; intro w' hw'; go_simp; (try with_reducible rfl)
      simp only [Act.put, List.setIfInBounds_toArray, List.set_cons_zero, List.set_cons_succ]
      apply wpR_next 1 (some 15)
      · simp only [List.getElem?_toArray, List.getElem?_cons_succ, List.getElem?_cons_zero]; exact rfl
      · rfl
      · kernel_rfl
      · kernel_rfl
      · kernel_rfl
      · exact fun _ _ _ _ h => h
      apply Exists.intro
      apply And.intro
      · apply yr_run; rfl; intro w' hw'; go_simp; (try with_reducible rfl)
      simp only [Act.put, List.setIfInBounds_toArray, List.set_cons_zero, List.set_cons_succ]
      apply wpR_next 2 (some 16)
      · simp only [List.getElem?_toArray, List.getElem?_cons_succ, List.getElem?_cons_zero]; exact rfl
      · rfl
      · kernel_rfl
      · kernel_rfl
      · kernel_rfl
      · exact fun _ _ _ _ h => h
      apply Exists.intro
      apply And.intro
      · apply yr_run; rfl; intro w' hw'; go_simp; (try with_reducible rfl)
      simp only [Act.put, List.setIfInBounds_toArray, List.set_cons_zero, List.set_cons_succ]
      apply wpR_next 3 (some 17)
      · simp only [List.getElem?_toArray, List.getElem?_cons_succ, List.getElem?_cons_zero]; exact rfl
      · rfl
      · kernel_rfl
      · kernel_rfl
      · kernel_rfl
      · exact fun _ _ _ _ h => h
      apply Exists.intro
      apply And.intro
      · apply yr_run; rfl; intro w' hw'; go_simp; (try with_reducible rfl)
      simp only [Act.put, List.setIfInBounds_toArray, List.set_cons_zero, List.set_cons_succ]
      apply wpR_next 4 (some 18)
      · simp only [List.getElem?_toArray, List.getElem?_cons_succ, List.getElem?_cons_zero]; exact rfl
      · rfl
      · kernel_rfl
      · kernel_rfl
      · kernel_rfl
      · exact fun _ _ _ _ h => h
      apply Exists.intro
      apply And.intro
      · apply yr_run; rfl; intro w' hw'; go_simp; (try with_reducible rfl)
      simp only [Act.put, List.setIfInBounds_toArray, List.set_cons_zero, List.set_cons_succ]
      apply wpR_next 5 (some 19)
      · simp only [List.getElem?_toArray, List.getElem?_cons_succ, List.getElem?_cons_zero]; exact rfl
      · rfl
      · kernel_rfl
      · kernel_rfl
      · kernel_rfl
      · exact fun _ _ _ _ h => h
      apply Exists.intro
      apply And.intro
      · apply yr_run; rfl; intro w' hw'; go_simp; (try with_reducible rfl)
      simp only [Act.put, List.setIfInBounds_toArray, List.set_cons_zero, List.set_cons_succ]
      apply wpR_next 6 (some 20)
      · simp only [List.getElem?_toArray, List.getElem?_cons_succ, List.getElem?_cons_zero]; exact rfl
      · rfl
      · kernel_rfl
      · kernel_rfl
      · kernel_rfl
      · exact fun _ _ _ _ h => h
      apply Exists.intro
      apply And.intro
      · apply yr_run; rfl; intro w' hw'; go_simp; (try with_reducible rfl)
      simp only [Act.put, List.setIfInBounds_toArray, List.set_cons_zero, List.set_cons_succ]
      apply wpR_next 7 (some 21)
      · simp only [List.getElem?_toArray, List.getElem?_cons_succ, List.getElem?_cons_zero]; exact rfl
      · rfl
      · kernel_rfl
      · kernel_rfl
      · kernel_rfl
      · exact fun _ _ _ _ h => h
      apply Exists.intro
      apply And.intro
      · apply yr_run; rfl; intro w' hw'; go_simp; (try with_reducible rfl)
      simp only [Act.put, List.setIfInBounds_toArray, List.set_cons_zero, List.set_cons_succ]
      refine wpR_done (by kernel_rfl) ?_ _
      intro W3 hw3
      have HX03 := Lib.hid (HX0.out.dr.bl hw3)
      have HX13 := Lib.hid (HX1.out.dr.bl hw3)
      have HX23 := Lib.hid (HX2.out.dr.bl hw3)
      have HE3 : RowKit.Hid (Below wo.heap.size wo W3) := Lib.hid (bel_bl (bel_dr (Below.refl _ _)) hw3)
      have HB3 := Lib.hid (bel_bl HB.out HE3.out)
      clear hw3 ldb ldx ldy lde ldf HB HX0 HX1 HX2 heq
      cases bq with
      | true =>
        have hq := Gbq.out
        rw [Bool.and_eq_true, beq_iff_eq, beq_iff_eq] at hq
        have hg := HG2.out
        rw [fndE, fnd_yes _ _ _ _ _ (by rw [hq.1, hq.2])] at hg
        injection hg with hg1 hg2
        subst hg1 hg2
        obtain ⟨l0, l1, l2, l3⟩ := HE.out
        have hB3 := HE3.out
        have hbo := Hbo.out
        have cb := HX03.out.cell (i := 1) rfl
        have f0 := HX23.out.free 0
        have k0 := HX23.out.cell (i := 0) rfl
        have y0 := (hB3.cell (p := ⟨bb, off + j * 4, none⟩) hbo).trans l0
        have f1 := HX23.out.free 1
        have k1 := HX23.out.cell (i := 1) rfl
        have y1 := (hB3.cell (p := ⟨bb, off + j * 4 + 1, none⟩) hbo).trans l1
        have f2 := HX23.out.free 2
        have k2 := HX23.out.cell (i := 2) rfl
        have y2 := (hB3.cell (p := ⟨bb, off + j * 4 + 2, none⟩) hbo).trans l2
        have f3 := HX23.out.free 3
        have k3 := HX23.out.cell (i := 3) rfl
        have y3 := (hB3.cell (p := ⟨bb, off + j * 4 + 3, none⟩) hbo).trans l3
        have HY := Lib.hid ((((HX23.out.set_ 0 (.int .i64 i1)).set_ 1 (.int .i64 i2)).set_ 2 (.string lb)).set_ 3 (.int .i64 at_))
        have HBf := Lib.hid ((((HB3.out.setCell (p := ⟨b2, 0, none⟩) Lb2.out (.int .i64 i1)).setCell (p := ⟨b2, 1, none⟩) Lb2.out (.int .i64 i2)).setCell (p := ⟨b2, 2, none⟩) Lb2.out (.string lb)).setCell (p := ⟨b2, 3, none⟩) Lb2.out (.int .i64 at_))
        clear HX23 HG2 HB3 hq l0 l1 l2 l3 HE hB3 HE3
        go_wp2
        exact ret_whole2 rfl b2 rfl rfl HY.out Try.underlying33 rfl (by kernel_rfl) rfl ⟨rfl, HBf.out⟩
      | false =>
        have hg := HG2.out
        rw [fndE, fnd_no _ _ _ _ _ (fun e => by
          have e1 : i1 = x1 := congrArg Prod.fst e
          have e2 : i2 = x2 := congrArg Prod.snd e
          have := Gbq.out
          rw [e1, e2] at this
          simp at this)] at hg
        have HG4 := Lib.hid hg
        clear hg HG2 HE HE3
        go_wp2
        go_roundw
        case rel => exact ⟨j + 1, by omega, by go_num, HB3, HX03, HX13, HX23, HG4⟩
        case measure => simp [intOf]; omega
    · obtain rfl : m = j := by omega
      have hg := HG.out
      rw [List.drop_eq_nil_of_le (by have := Hl.out; omega)] at hg
      replace hg : (zE, false) = (r, ok) := hg
      injection hg with hg1 hg2
      subst hg1 hg2
      have cb := HX0.out.cell (i := 1) rfl
      have f0 := HX2.out.free 0
      have k0 := HX2.out.cell (i := 0) rfl
      have f1 := HX2.out.free 1
      have k1 := HX2.out.cell (i := 1) rfl
      have f2 := HX2.out.free 2
      have k2 := HX2.out.cell (i := 2) rfl
      have f3 := HX2.out.free 3
      have k3 := HX2.out.cell (i := 3) rfl
      have HY := Lib.hid ((((HX2.out.set_ 0 (.int .i64 0)).set_ 1 (.int .i64 0)).set_ 2 (.string { data := #[] })).set_ 3 (.int .i64 0))
      have HBf := Lib.hid ((((HB.out.setCell (p := ⟨b2, 0, none⟩) Lb2.out (.int .i64 0)).setCell (p := ⟨b2, 1, none⟩) Lb2.out (.int .i64 0)).setCell (p := ⟨b2, 2, none⟩) Lb2.out (.string { data := #[] })).setCell (p := ⟨b2, 3, none⟩) Lb2.out (.int .i64 0))
      clear HG HX2
      go_wp2
      exact ret_whole2 rfl b2 rfl rfl HY.out Try.underlying33 rfl (by kernel_rfl) rfl ⟨rfl, HBf.out⟩
end Go.Proofs.Ytahbfdhjgnlmdaa

/- The document's At, times. -/
namespace Go.Proofs.Ytahbfdhjgnlmdaa
open Go.RowKit
set_option linter.unusedSimpArgs false
set_option linter.unusedVariables false

def timesV (Vs : List VC) (x : D) : Nat := (ringsOf Vs).count x
theorem timesV_next (Vs : List VC) (x : D) (j : Nat) (v : VC) (h : Vs[j]? = some v) : timesV (Vs.take (j + 1)) x = timesV (Vs.take j) x + v.2.1.2.2.2.count x := by
  have : Vs.take (j + 1) = Vs.take j ++ [v] := by rw [List.take_add_one, h]; rfl
  rw [timesV, timesV, this, ringsOf, List.flatMap_append, List.count_append]
  simp [ringsOf]
theorem count_next (L : List D) (x : D) (q : Nat) (d : D) (h : L[q]? = some d) : (L.take (q + 1)).count x = (L.take q).count x + if d = x then 1 else 0 := by
  have : L.take (q + 1) = L.take q ++ [d] := by rw [List.take_add_one, h]; rfl
  rw [this, List.count_append, List.count_singleton]
  simp
set_option maxRecDepth 100000 in
set_option maxHeartbeats 4000000 in
theorem rtimes_any (A : Option Addr) (n c : Nat) (Vs : List VC) (B : Option Addr) (m k : Nat) (Es : List EC) (x1 x2 x3 : Int) (w : World) (h : DgIn w A n c Vs B m k Es) (hn : n ≤ 10000) (hr : ∀ y ∈ Vs, y.2.1.2.1 ≤ 5864062014634) :
    Calls Try.prog 49 #[.agg #[.slice A n c, .slice B m k], .agg #[.int .i64 x1, .int .i64 x2, .int .i64 x3]] w fun e w' => e = .returned (.int .i64 (timesV Vs (x1, x2, x3) : Nat)) ∧ Below w.heap.size w w' := by
  have H := Lib.hid h.v
  have HRg := Lib.hid h.r
  have Hhr := Lib.hid hr
  have Hl := Lib.hid (h.v.rlen vC_len (by decide))
  obtain ⟨T, gT⟩ : ∃ z, timesV Vs (x1, x2, x3) = z := ⟨_, rfl⟩
  rw [gT]
  have GT := Lib.hid gT
  clear h hr gT
  go_enter Try.func49, Try.ntmps49
  go_wp2
  have hx0 : Whole ((w.alloc (.cells #[.slice A n c, .slice B m k] 25)).alloc (.cells #[.int .i64 x1, .int .i64 x2, .int .i64 x3] 35)) (w.heap.size) 25 [.slice A n c, .slice B m k] := ((Whole.new_ w 25 [.slice A n c, .slice B m k]).alloc (.cells #[.int .i64 x1, .int .i64 x2, .int .i64 x3] 35))
  have hx1 : Whole ((w.alloc (.cells #[.slice A n c, .slice B m k] 25)).alloc (.cells #[.int .i64 x1, .int .i64 x2, .int .i64 x3] 35)) (w.heap.size + 1) 35 [.int .i64 x1, .int .i64 x2, .int .i64 x3] := (Whole.new2 (w := (w.alloc (.cells #[.slice A n c, .slice B m k] 25))) (by simp))
  have hbl : Below w.heap.size w ((w.alloc (.cells #[.slice A n c, .slice B m k] 25)).alloc (.cells #[.int .i64 x1, .int .i64 x2, .int .i64 x3] 35)) := (bel_al (below1 w (.cells #[.slice A n c, .slice B m k] 25)) (.cells #[.int .i64 x1, .int .i64 x2, .int .i64 x3] 35))
  have hsz : w.heap.size + 1 + 1 ≤ (((w.alloc (.cells #[.slice A n c, .slice B m k] 25)).alloc (.cells #[.int .i64 x1, .int .i64 x2, .int .i64 x3] 35))).heap.size := by simp
  obtain ⟨W0, gW0⟩ : ∃ z, ((w.alloc (.cells #[.slice A n c, .slice B m k] 25)).alloc (.cells #[.int .i64 x1, .int .i64 x2, .int .i64 x3] 35)) = z := ⟨_, rfl⟩
  rw [gW0] at hx0 hx1 hbl hsz
  obtain ⟨b1, gb1⟩ : ∃ z, w.heap.size + 1 = z := ⟨_, rfl⟩
  rw [gb1] at hx1
  obtain ⟨b0, gb0⟩ : ∃ z, w.heap.size = z := ⟨_, rfl⟩
  rw [gb0] at hx0
  have HX0 := Lib.hid hx0
  have HX1 := Lib.hid hx1
  have HB0 := Lib.hid hbl
  have HS0 := Lib.hid hsz
  have Gb0 := Lib.hid gb0
  have Lb0 : RowKit.Hid (w.heap.size ≤ b0) := Lib.hid (by omega)
  have Gb1 := Lib.hid gb1
  have Lb1 : RowKit.Hid (w.heap.size ≤ b1) := Lib.hid (by omega)
  have N01 : RowKit.Hid (b0 ≠ b1) := Lib.hid (by omega)
  rw [gW0, gb1, gb0]
  clear gW0 hbl hsz hx0 hx1 gb0 gb1
  go_loopw [5, 6] (fun sn si wr => ∃ j t : Nat, j ≤ n ∧ t ≤ j * 5864062014634 ∧ si = .int .i64 j ∧ sn = .int .i64 t ∧ RowKit.Hid (Below w.heap.size w wr) ∧ RowKit.Hid (Whole wr b0 25 [.slice A n c, .slice B m k]) ∧ RowKit.Hid (Whole wr b1 35 [.int .i64 x1, .int .i64 x2, .int .i64 x3]) ∧ RowKit.Hid (timesV (Vs.take j) (x1, x2, x3) = t)) (fun _ si _ => n - (intOf si).toNat)
  case atStart => exact ⟨0, 0, by omega, by omega, rfl, rfl, HB0, HX0, HX1, Lib.hid rfl⟩
  case round =>
    clear HB0 HX0 HX1
    obtain ⟨j, t, hj, ht, rfl, rfl, HB, HX0, HX1, HG⟩ := hrel
    obtain ⟨wo, gwo⟩ : ∃ z, wr = z := ⟨_, rfl⟩
    rw [gwo] at HB HX0 HX1 ⊢
    clear gwo
    by_cases hjn : j < n
    · obtain ⟨x, hx⟩ : ∃ x, Vs[j]? = some x := ⟨_, List.getElem?_eq_getElem (by have := Hl.out; omega)⟩
      have HNx := Lib.hid (timesV_next Vs (x1, x2, x3) j x hx)
      have hrg := HRg.out x (List.mem_of_getElem? hx)
      have hrn := Hhr.out x (List.mem_of_getElem? hx)
      obtain ⟨bb, off, rfl, hbB, hpl⟩ := H.out.place vC_len (by decide) (by omega)
      have q2 := hpl j _ hx 2 _ rfl
      simp only [Addr.add_lit, Nat.add_zero] at q2
      obtain ⟨⟨i1, i2⟩, ⟨rA, rn, rc, rL⟩, lb, at_⟩ := x
      have hR0 : RdS w w.heap.size 3 rA rn rc (dartsV rL) := hrg.2
      replace q2 : w.cell? ⟨bb, off + j * 5 + 2, none⟩ = some (.slice rA rn rc) := q2
      rw [dartsV_rows] at hR0
      have HR := Lib.hid hR0
      have Hrl := Lib.hid (hR0.rlen dC_len (by decide))
      replace hrn : rn ≤ 5864062014634 := hrn
      replace HNx : RowKit.Hid (timesV (Vs.take (j + 1)) (x1, x2, x3) = timesV (Vs.take j) (x1, x2, x3) + rL.count (x1, x2, x3)) := HNx
      have Q2 := Lib.hid q2
      have HbB := Lib.hid hbB
      have cb := HX0.out.cell (i := 0) rfl
      clear hx hpl hbB hrg hR0 q2
      go_wp2
      clear cb
      go_loopw [5, 7] (fun sn si wr => ∃ q t' : Nat, q ≤ rn ∧ t' ≤ t + q ∧ si = .int .i64 q ∧ sn = .int .i64 t' ∧ RowKit.Hid (Below w.heap.size w wr) ∧ RowKit.Hid (Whole wr b0 25 [.slice (some ⟨bb, off, none⟩) n c, .slice B m k]) ∧ RowKit.Hid (Whole wr b1 35 [.int .i64 x1, .int .i64 x2, .int .i64 x3]) ∧ RowKit.Hid (t + (rL.take q).count (x1, x2, x3) = t')) (fun _ si _ => rn - (intOf si).toNat)
      case atStart => exact ⟨0, t, by omega, by omega, rfl, rfl, HB, HX0, HX1, Lib.hid (by simp)⟩
      case round =>
        clear HB HX0 HX1
        obtain ⟨q, t', hq, ht', rfl, rfl, HZ, HY0, HY1, HI⟩ := hrel
        obtain ⟨wi, gwi⟩ : ∃ z, wr = z := ⟨_, rfl⟩
        rw [gwi] at HZ HY0 HY1 ⊢
        clear gwi
        have y2 := (HZ.out.cell (p := ⟨bb, off + j * 5 + 2, none⟩) HbB.out).trans Q2.out
        have cb := HY0.out.cell (i := 0) rfl
        by_cases hqn : q < rn
        · obtain ⟨d, hd⟩ : ∃ d, rL[q]? = some d := ⟨_, List.getElem?_eq_getElem (by have := Hrl.out; omega)⟩
          have hcn := count_next rL (x1, x2, x3) q d hd
          obtain ⟨rb, ro, rfl, hrB, hrpl⟩ := HR.out.place dC_len (by decide) (by omega)
          have p0 := hrpl q _ hd 0 _ rfl
          have p1 := hrpl q _ hd 1 _ rfl
          have p2 := hrpl q _ hd 2 _ rfl
          simp only [Addr.add_lit, Nat.add_zero] at p0 p1 p2
          have e0 := (HZ.out.cell (p := ⟨rb, ro + q * 3, none⟩) hrB).trans p0
          have e1 := (HZ.out.cell (p := ⟨rb, ro + q * 3 + 1, none⟩) hrB).trans p1
          have e2 := (HZ.out.cell (p := ⟨rb, ro + q * 3 + 2, none⟩) hrB).trans p2
          obtain ⟨d1, d2, d3⟩ := d
          have HCn := Lib.hid hcn
          clear hd hcn hrB hrpl p0 p1 p2
          go_upto_region 8 with fail
          clear cb
          have ldb : ∀ w', Kept Nil_ wi.drew w' → w'.cell? ⟨b0, 0, none⟩ = some (.slice (some ⟨bb, off, none⟩) n c) := fun w' h => h.nil_cell (HY0.out.dr.cell (i := 0) rfl)
          have ldx : ∀ w', Kept Nil_ wi.drew w' → w'.cell? ⟨b1, 0, none⟩ = some (.int .i64 x1) := fun w' h => h.nil_cell (HY1.out.dr.cell (i := 0) rfl)
          have ldy : ∀ w', Kept Nil_ wi.drew w' → w'.cell? ⟨b1, 1, none⟩ = some (.int .i64 x2) := fun w' h => h.nil_cell (HY1.out.dr.cell (i := 1) rfl)
          have ldz : ∀ w', Kept Nil_ wi.drew w' → w'.cell? ⟨b1, 2, none⟩ = some (.int .i64 x3) := fun w' h => h.nil_cell (HY1.out.dr.cell (i := 2) rfl)
          have ldr : ∀ w', Kept Nil_ wi.drew w' → w'.cell? ⟨bb, off + j * 5 + 2, none⟩ = some (.slice (some ⟨rb, ro, none⟩) rn rc) := fun w' h => h.nil_cell (y2)
          have ld0 : ∀ w', Kept Nil_ wi.drew w' → w'.cell? ⟨rb, ro + q * 3, none⟩ = some (.int .i64 d1) := fun w' h => h.nil_cell (e0)
          have ld1 : ∀ w', Kept Nil_ wi.drew w' → w'.cell? ⟨rb, ro + q * 3 + 1, none⟩ = some (.int .i64 d2) := fun w' h => h.nil_cell (e1)
          have ld2 : ∀ w', Kept Nil_ wi.drew w' → w'.cell? ⟨rb, ro + q * 3 + 2, none⟩ = some (.int .i64 d3) := fun w' h => h.nil_cell (e2)
          clear y2 e0 e1 e2
          have heq := fun W => eq_dart_run (d1, d2, d3) (x1, x2, x3) W
          obtain ⟨bq, gbq⟩ : ∃ z, decide ((d1, d2, d3) = (x1, x2, x3)) = z := ⟨_, rfl⟩
          rw [gbq] at heq
          have Gbq := Lib.hid gbq
          clear gbq
          refine wp_region_reg (Nil_) (by kernel_rfl) ?_
          apply wpR_next 0 (some 26)
          · simp only [List.getElem?_toArray, List.getElem?_cons_succ, List.getElem?_cons_zero]; exact rfl
          · rfl
          · kernel_rfl
          · kernel_rfl
          · kernel_rfl
          · exact fun _ _ _ _ h => h
          apply Exists.intro
          apply And.intro
          · apply yr_run; rfl; intro w' hw'; go_simp; (try with_reducible rfl)
          simp only [Act.put, List.setIfInBounds_toArray, List.set_cons_zero, List.set_cons_succ]
          apply wpR_next 1 (some 27)
          · simp only [List.getElem?_toArray, List.getElem?_cons_succ, List.getElem?_cons_zero]; exact rfl
          · rfl
          · kernel_rfl
          · kernel_rfl
          · kernel_rfl
          · exact fun _ _ _ _ h => h
          apply Exists.intro
          apply And.intro
          · apply yr_run; rfl; intro w' hw'; go_simp; (try with_reducible rfl)
          simp only [Act.put, List.setIfInBounds_toArray, List.set_cons_zero, List.set_cons_succ]
          apply wpR_next 2 (some 28)
          · simp only [List.getElem?_toArray, List.getElem?_cons_succ, List.getElem?_cons_zero]; exact rfl
          · rfl
          · kernel_rfl
          · kernel_rfl
          · kernel_rfl
          · exact fun _ _ _ _ h => h
          apply Exists.intro
          apply And.intro
          · apply yr_run; rfl; intro w' hw'; go_simp; (try with_reducible rfl)
          simp only [Act.put, List.setIfInBounds_toArray, List.set_cons_zero, List.set_cons_succ]
          apply wpR_next 3 (some 29)
          · simp only [List.getElem?_toArray, List.getElem?_cons_succ, List.getElem?_cons_zero]; exact rfl
          · rfl
          · kernel_rfl
          · kernel_rfl
          · kernel_rfl
          · exact fun _ _ _ _ h => h
          apply Exists.intro
          apply And.intro
          · apply yr_run; rfl; intro w' hw'; go_simp; (try with_reducible rfl)
          simp only [Act.put, List.setIfInBounds_toArray, List.set_cons_zero, List.set_cons_succ]
          apply wpR_next 4 (some 30)
          · simp only [List.getElem?_toArray, List.getElem?_cons_succ, List.getElem?_cons_zero]; exact rfl
          · rfl
          · kernel_rfl
          · kernel_rfl
          · kernel_rfl
          · exact fun _ _ _ _ h => h
          apply Exists.intro
          apply And.intro
          · apply yr_run; rfl; intro w' hw'; go_simp; (try with_reducible rfl)
          simp only [Act.put, List.setIfInBounds_toArray, List.set_cons_zero, List.set_cons_succ]
          apply wpR_next 5 (some 31)
          · simp only [List.getElem?_toArray, List.getElem?_cons_succ, List.getElem?_cons_zero]; exact rfl
          · rfl
          · kernel_rfl
          · kernel_rfl
          · kernel_rfl
          · exact fun _ _ _ _ h => h
          apply Exists.intro
          apply And.intro
          · apply yr_run; rfl; intro w' hw'; go_simp; (try with_reducible rfl)
          simp only [Act.put, List.setIfInBounds_toArray, List.set_cons_zero, List.set_cons_succ]
          apply wpR_next 6 (some 32)
          · simp only [List.getElem?_toArray, List.getElem?_cons_succ, List.getElem?_cons_zero]; exact rfl
          · rfl
          · kernel_rfl
          · kernel_rfl
          · kernel_rfl
          · exact fun _ _ _ _ h => h
          apply Exists.intro
          apply And.intro
          · apply yr_run; rfl; intro w' hw'; go_simp; (try with_reducible rfl)
          simp only [Act.put, List.setIfInBounds_toArray, List.set_cons_zero, List.set_cons_succ]
          apply wpR_next 7 (some 33)
          · simp only [List.getElem?_toArray, List.getElem?_cons_succ, List.getElem?_cons_zero]; exact rfl
          · rfl
          · kernel_rfl
          · kernel_rfl
          · kernel_rfl
          · exact fun _ _ _ _ h => h
          apply Exists.intro
          apply And.intro
          · apply yr_run; rfl; intro w' hw'; go_simp; (try with_reducible rfl)
          simp only [Act.put, List.setIfInBounds_toArray, List.set_cons_zero, List.set_cons_succ]
          apply wpR_next 8 (some 34)
          · simp only [List.getElem?_toArray, List.getElem?_cons_succ, List.getElem?_cons_zero]; exact rfl
          · rfl
          · kernel_rfl
          · kernel_rfl
          · kernel_rfl
          · exact fun _ _ _ _ h => h
          apply Exists.intro
          apply And.intro
          · apply yr_run; rfl; intro w' hw'; go_simp; (try with_reducible rfl)
          simp only [Act.put, List.setIfInBounds_toArray, List.set_cons_zero, List.set_cons_succ]
          apply wpR_next 9 (some 35)
          · simp only [List.getElem?_toArray, List.getElem?_cons_succ, List.getElem?_cons_zero]; exact rfl
          · rfl
          · kernel_rfl
          · kernel_rfl
          · kernel_rfl
          · exact fun _ _ _ _ h => h
          apply Exists.intro
          apply And.intro
          · apply yr_run; rfl; intro w' hw'; go_simp; (try with_reducible rfl)
          simp only [Act.put, List.setIfInBounds_toArray, List.set_cons_zero, List.set_cons_succ]
          apply wpR_next 10 (some 36)
          · simp only [List.getElem?_toArray, List.getElem?_cons_succ, List.getElem?_cons_zero]; exact rfl
          · rfl
          · kernel_rfl
          · kernel_rfl
          · kernel_rfl
          · exact fun _ _ _ _ h => h
          apply Exists.intro
          apply And.intro
          · exact yr_run (by rfl) (fun w' hw' => exec_binop_agg .eql 35 (.tmp 34) (.tmp 35) 35 rfl rfl rfl (by kernel_rfl) (heq w'))
          simp only [Act.put, List.setIfInBounds_toArray, List.set_cons_zero, List.set_cons_succ]
          refine wpR_done (by kernel_rfl) ?_ _
          intro W3 hw3
          have HX03 := Lib.hid (HY0.out.dr.bl hw3)
          have HX13 := Lib.hid (HY1.out.dr.bl hw3)
          have HB3 := Lib.hid (bel_bl (bel_dr HZ.out) hw3)
          clear hw3 ldb ldx ldy ldz ldr ld0 ld1 ld2 HZ HY0 HY1 heq
          cases bq with
          | true =>
            have HI3 : RowKit.Hid (t + (rL.take (q + 1)).count (x1, x2, x3) = t' + 1) := Lib.hid (by
              have h1 := HCn.out
              rw [if_pos (of_decide_eq_true Gbq.out)] at h1
              have h2 := HI.out
              omega)
            clear HI
            go_wp2
            go_roundw
            case rel => exact ⟨q + 1, t' + 1, by omega, by omega, by go_num, by go_num, HB3, HX03, HX13, HI3⟩
            case measure => simp [intOf]; omega
          | false =>
            have HI3 : RowKit.Hid (t + (rL.take (q + 1)).count (x1, x2, x3) = t') := Lib.hid (by
              have h1 := HCn.out
              rw [if_neg (of_decide_eq_false Gbq.out)] at h1
              have h2 := HI.out
              omega)
            clear HI
            go_wp2
            go_roundw
            case rel => exact ⟨q + 1, t', by omega, by omega, by go_num, by first | rfl | go_num, HB3, HX03, HX13, HI3⟩
            case measure => simp [intOf]; omega
        · obtain rfl : rn = q := by omega
          have HG3 : RowKit.Hid (timesV (Vs.take (j + 1)) (x1, x2, x3) = t') := Lib.hid (by
            rw [HNx.out, HG.out]
            have h1 := HI.out
            rw [List.take_of_length_le (by have := Hrl.out; omega)] at h1
            exact h1)
          clear HI HG
          go_wp2
          go_roundw
          case rel => exact ⟨j + 1, t', by omega, by omega, by go_num, rfl, HZ, HY0, HY1, HG3⟩
          case measure => simp [intOf]; omega
    · obtain rfl : n = j := by omega
      have hT : T = t := by
        have h1 := HG.out
        rw [List.take_of_length_le (by have := Hl.out; omega), GT.out] at h1
        exact h1
      subst hT
      have cb := HX0.out.cell (i := 0) rfl
      clear HG GT
      go_wp2
      go_ret
      exact ⟨rfl, HB.out⟩
end Go.Proofs.Ytahbfdhjgnlmdaa
