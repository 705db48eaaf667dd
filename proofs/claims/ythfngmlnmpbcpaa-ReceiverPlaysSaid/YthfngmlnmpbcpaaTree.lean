/- A drawn region in which more than one operation that turns memory may be next: each way. Rows of the call's own that grow in it, beside variables of its own. -/
import Derived.Test.YthfngmlnmpbcpaaOw3
import Derived.Test.YthfngmlnmpbcpaaOw4
import Derived.Test.YthfngmlnmpbcpaaRow
namespace Go.Proofs.Ythfngmlnmpbcpaa
open Go.RowKit

section
variable {P : Program} {ops : Array Oper} {S : Nat → Prop} {Q : Exit → Act → World → Prop} {md : Region.Mode} {fuel : Nat} {listed : Array Bool} {a : Act} {w : World}

/-- Operation i is next. -/
def At_ (P : Program) (md : Region.Mode) (ops : Array Oper) (S : Nat → Prop) (Q : Exit → Act → World → Prop) (fuel : Nat) (listed : Array Bool) (a : Act) (w : World) (i : Nat) : Prop :=
  ∀ w', Ext w w' → wpOp P ops Q i (fun a' w'' => Kept S w' w'' ∧ wpR P md ops S Q fuel (listed.setIfInBounds i true) a' w'') a w'
theorem wpR_two (i j : Nat) (hr : Region.ready md ops listed = [i, j]) (h1 : At_ P md ops S Q fuel listed a w i) (h2 : At_ P md ops S Q fuel listed a w j) : wpR P md ops S Q (fuel + 1) listed a w := by
  refine ⟨fun h0 => (by rw [h0] at hr; cases hr), fun w1 hw1 k hk => ?_⟩
  rw [hr] at hk
  rcases List.mem_cons.1 hk with rfl | hk
  · exact h1 w1 hw1
  · obtain rfl := List.mem_singleton.1 hk
    exact h2 w1 hw1
theorem wpR_one (i : Nat) (hr : Region.ready md ops listed = [i]) (h1 : At_ P md ops S Q fuel listed a w i) : wpR P md ops S Q (fuel + 1) listed a w := by
  refine ⟨fun h0 => (by rw [h0] at hr; cases hr), fun w1 hw1 k hk => ?_⟩
  rw [hr] at hk
  obtain rfl := List.mem_singleton.1 hk
  exact h1 w1 hw1
/-- An operation that answers and may turn the world. -/
theorem at_run (i : Nat) (d : Option Tmp) {oi : Oper} (hi : ops[i]? = some oi) (hd : oi.dst = d) (hw : Region.wanted oi (yielded ops a.tmps) = true)
    (h : ∀ w', Ext w w' → ∃ v w'', (execOp a.eval oi).run P w' = .ok (.value v) w'' ∧ Kept S w' w'' ∧ wpR P md ops S Q fuel (listed.setIfInBounds i true) (a.put d v) w'') : At_ P md ops S Q fuel listed a w i := by
  subst hd
  intro w' hx
  obtain ⟨v, w'', h1, h2, h3⟩ := h w' hx
  unfold Go.wpOp
  simp only [hi, hw, if_true]
  refine .inl ?_
  unfold Oper.wp
  rw [h1]
  exact ⟨h2, h3⟩
/-- A store. -/
theorem at_store (i : Nat) {oi : Oper} (hi : ops[i]? = some oi) (hd : oi.dst = none) (hw : Region.wanted oi (yielded ops a.tmps) = true)
    (h : ∀ w', Ext w w' → ∃ w'', (execOp a.eval oi).run P w' = .ok .skip w'' ∧ Kept S w' w'' ∧ wpR P md ops S Q fuel (listed.setIfInBounds i true) a w'') : At_ P md ops S Q fuel listed a w i := by
  intro w' hx
  obtain ⟨w'', h1, h2, h3⟩ := h w' hx
  unfold Go.wpOp
  simp only [hi, hw, if_true]
  refine .inl ?_
  unfold Oper.wp
  rw [h1]
  refine ⟨h2, ?_⟩
  rw [hd]
  exact h3
/-- A call. -/
theorem at_call (i : Nat) (d : Option Tmp) {oi : Oper} {f : FuncId} {args : Array Value} (hi : ops[i]? = some oi) (hd : oi.dst = d) (hw : Region.wanted oi (yielded ops a.tmps) = true)
    (he : ∀ w', (execOp a.eval oi).run P w' = .ok (.enter f args) w')
    (h : ∀ w', Ext w w' → Calls P f args w' fun e w'' => ∃ v, e = .returned v ∧ Kept S w' w'' ∧ wpR P md ops S Q fuel (listed.setIfInBounds i true) (a.put d v) w'') : At_ P md ops S Q fuel listed a w i := by
  subst hd
  intro w1 hw1
  unfold Go.wpOp
  simp only [hi, hw, if_true]
  refine .inl ?_
  unfold Oper.wp
  rw [he w1]
  refine Calls.mono (h w1 hw1) fun e w'' hx => ?_
  obtain ⟨v, rfl, hk, hn⟩ := hx
  exact ⟨hk, hn⟩
end

/-- What stands behind a piece of code, said once for all ways through it. -/
theorem wp_behind {P : Program} {c : Code} {K : Act → World → Prop} {Q' : Exit → Act → World → Prop} {a : Act} {w : World} (Φ : Act → World → Prop)
    (h : c.wp P (fun e a' w' => e = .normal ∧ Φ a' w') a w) (hk : ∀ a' w', Φ a' w' → K a' w') : c.wp P (Exit.then K Q') a w := by
  refine wp_mono h fun e a' w' ⟨he, hp⟩ => ?_
  subst he
  exact hk _ _ hp

theorem wp_behind2 {P : Program} {c : Code} {K : Act → World → Prop} {Q' : Exit → Act → World → Prop} {a : Act} {w : World} (Φ : Act → Act → World → Prop)
    (h : c.wp P (fun e a' w' => e = .normal ∧ Φ a a' w') a w) (hk : ∀ a' w', Φ a a' w' → K a' w') : c.wp P (Exit.then K Q') a w := wp_behind (Φ a) h hk
theorem RdS.grown {W W' : World} {size n c : Nat} {A : Option Addr} {xs : List Value} {r : Option Nat} (h : RdS W W.heap.size size A n c xs) (hg : W.grownBy W' r) (hne : ∀ a, A = some a → 0 < n → some a.block ≠ r) : RdS W' W'.heap.size size A n c xs := by
  refine ⟨h.len, h.none_, h.le, fun a ha hn => Nat.lt_of_lt_of_le (h.low a ha hn) hg.size, fun a ha j u hu => ?_⟩
  rw [← h.cell a ha j u hu]
  refine World.cell?_of_block (hg.block _ ?_ ?_)
  · rw [add_block]; exact h.low a ha (h.pos hu)
  · rw [add_block]; exact hne a ha (h.pos hu)

theorem Ow.app2 {P : Program} {w W : World} (t ty e : TypeId) (i : TypeInfo) (z : Value) (size bytes B : Nat) (ht : P.underlying t = some (.slice e)) (hi : P.info? e = some i) (hz : i.zero = some z)
    (hsize : i.size = size) (hby : i.bytes = bytes) (hzs : z.cells.size = size) (hsz : 0 < size)
    (v : Value) (n : Nat) (xs : List Value) (how : Ow w B e size v n xs W)
    (BB : Nat) (A : Option Addr) (m c : Nat) (news : List Value) (hr : RdS W BB size A m c news) (h1 : ∀ u ∈ news, u.oneCell' = true)
    (h63 : n + m ≤ maxLen) (hbytes : (n + m) * bytes ≤ 140737488355328) :
    ∃ v' W', (Builtin.append_ #[t, t] ty #[v, .slice A m c]).run P W = .ok v' W' ∧ Ow w B e size v' (n + m) (xs ++ news) W' ∧ Below B W W' ∧ W.grownBy W' v.ownBlock ∧ (v'.ownBlock = v.ownBlock ∨ v'.ownBlock = some W.heap.size) := by
  cases A with
  | none =>
    obtain ⟨rfl, rfl⟩ := hr.none_ rfl
    have hnil : news = [] := List.eq_nil_of_length_eq_zero (by simpa using hr.len)
    subst hnil
    exact ⟨v, W, run_append_owned_none (P := P) (w := W) B t ty e i size ht hi v n xs how.own, by simpa using how, Below.refl _ _, World.grownBy.refl W _, .inl rfl⟩
  | some ad =>
    obtain ⟨v', w', hrun, hown, hg, _, ho⟩ := run_append_own_at (P := P) W B t ty e i z size bytes ht hi hz hsize hby hzs hsz v n xs how.own ad m c news hr.len (hr.cell ad rfl) h1 h63 hbytes how.hi
    have hk : ∀ k, v.ownBlock = some k → B ≤ k := fun k hk => (how.own.lt k hk).1
    exact ⟨v', w', hrun, ⟨hown, how.below.grown hg how.below.size (fun k e => Nat.le_trans how.lo (hk k e)), how.lo, Nat.le_trans how.hi hg.size⟩, (Below.refl B W).grown hg how.hi hk, hg, ho⟩
theorem Ow.ne2 {v v' : Value} {W : World} {g : Nat} (h : some g ≠ v.ownBlock) (hg : g < W.heap.size) (ho : v'.ownBlock = v.ownBlock ∨ v'.ownBlock = some W.heap.size) : some g ≠ v'.ownBlock := by
  rcases ho with ho | ho
  · rw [ho]; exact h
  · rw [ho]
    intro e
    have := Option.some.inj e
    omega
/-- Behind a store to another block a row of the call's own reads as it did. -/
theorem Ow.rds_far {w W : World} {B size n g i : Nat} {e : TypeId} {v : Value} {xs : List Value} (h : Ow w B e size v n xs W) (hne : some g ≠ v.ownBlock) (u : Value) :
    ∃ A c, v = .slice A n c ∧ RdS (W.setCell ⟨g, i, none⟩ u) (W.setCell ⟨g, i, none⟩ u).heap.size size A n c xs := by
  obtain ⟨A, c, rfl, hr⟩ := h.rds
  refine ⟨A, c, rfl, hr.far (p := ⟨g, i, none⟩) (fun hn a ha hb => hne ?_) u⟩
  subst ha
  have hb' : a.block = g := hb
  show some g = some a.block
  rw [hb']
end Go.Proofs.Ythfngmlnmpbcpaa
