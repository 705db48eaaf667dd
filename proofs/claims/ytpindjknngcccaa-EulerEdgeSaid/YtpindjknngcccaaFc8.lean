/- For Faces: a store into a map of darts in a round; the marks that a loop over iterators gathers; what faces are. -/
import Derived.Test.YtpindjknngcccaaHB
import Derived.Test.YtpindjknngcccaaCm13b
namespace Go.Proofs.Ytpindjknngcccaa
open Go.RowKit
set_option linter.unusedSimpArgs false
set_option linter.unusedVariables false


section
variable {b n : Nat} {f : D → Option Value} {S : List D} {w w' : World} {x : D} {t e : TypeId} {ops : Array Oper} {rest : List Oper} {o : Oper} {a : Act} {Q : Exit → Act → World → Prop} {F : Fence} {nF : Nat}
theorem wlIn_dPut (hg : o.guard = none) (m y v : Operand) (ho : o.op = .mapUpdate t m y v) (hm : a.eval m = .map (some b)) (h : MapD w b n f S) (ht : Try.prog.underlying t = some (.map 39 e)) (hn : n < maxLen) (hx : wfD x)
    (hy : a.eval y = dV x) {u : Value} (hv : a.eval v = u) (hK : ∀ w', MapD w' b (n + 1) (fun y => if y = x then some u else f y) (insD x S) → w.grownBy w' (some b) → wpListIn F nF Try.prog ops Q rest (a.put o.dst undef) w') : wpListIn F nF Try.prog ops Q (o :: rest) a w := by
  refine wpListIn_plain hg fun K' hK' => ?_
  obtain ⟨w', h1, h2, h3⟩ := h.put ht hn hx u
  unfold Oper.wpIn
  refine ⟨?_, ?_⟩
  · simp [Oper.about, ho]
  · rw [Oper.semAt_plain F _ _ (by rw [ho]; intro c hc'; cases hc'), exec_mapPut ho hm hy hv h1]
    exact hK' _ _ (hK w' h2 h3)
end
/-- The marks that loops over iterators have left, each with its block, from lo on. -/
def Marks (W : World) (lo : Nat) : List Deferred → Prop
  | [] => True
  | d :: r => (∃ k, d = { target := .collected k, args := #[] } ∧ lo ≤ k ∧ W.heap[k]? = some (.deferred (some [])) ∧ ∀ e ∈ r, e ≠ d) ∧ Marks W lo r
/-- Blocks for deferred calls may be shut. -/
structure Shut (lo : Nat) (W W' : World) : Prop where
  os : W'.os = W.os
  tape : W'.tape = W.tape
  output : W'.output = W.output
  size : W.heap.size = W'.heap.size
  block : ∀ i o, W.heap[i]? = some o → (i < lo ∨ o.isCells = true) → W'.heap[i]? = some o
theorem Shut.refl (lo : Nat) (W : World) : Shut lo W W := ⟨rfl, rfl, rfl, rfl, fun _ _ h _ => h⟩
theorem Shut.put {lo : Nat} {W W' : World} (h : Shut lo W W') {k : Nat} (hk : lo ≤ k) (hd : W'.heap[k]? = some (.deferred (some []))) : Shut lo W (W'.putObj k (.deferred none)) := by
  refine ⟨h.os, h.tape, h.output, by rw [h.size]; simp, fun i o hi hc => ?_⟩
  have h1 := h.block i o hi hc
  by_cases e : i = k
  · subst e
    exfalso
    rw [hd] at h1
    injection h1 with h1
    subst h1
    rcases hc with hc | hc
    · omega
    · cases hc
  · exact (World.putObj_heap_other e).trans h1
theorem Shut.below {lo n : Nat} {W W' : World} (h : Shut lo W W') (hn : n ≤ lo) : Below n W W' := by
  refine ⟨h.os, h.tape, h.output, Nat.le_of_eq h.size, fun k hk => ?_⟩
  cases e : W.heap[k]? with
  | none =>
    have h1 := h.size
    rw [Array.getElem?_eq_none_iff] at e ⊢
    omega
  | some o => exact h.block k o e (.inl (by omega))
theorem Marks.at_ {W W' : World} {lo : Nat} : ∀ {ds : List Deferred}, Marks W lo ds → (∀ k, lo ≤ k → W.heap[k]? = some (.deferred (some [])) → W'.heap[k]? = some (.deferred (some []))) → Marks W' lo ds
  | [], _, _ => trivial
  | _ :: _, ⟨⟨k, h1, h2, h3, h4⟩, hr⟩, hk => ⟨⟨k, h1, h2, hk k h2 h3, h4⟩, hr.at_ hk⟩
theorem Marks.other {W : World} {lo j : Nat} {d : Deferred} (hd : d = { target := .collected j, args := #[] }) (hlo : lo ≤ j) : ∀ {ds : List Deferred}, Marks W lo ds → (∀ e ∈ ds, e ≠ d) → Marks (W.putObj j (.deferred none)) lo ds
  | [], _, _ => trivial
  | c :: r, ⟨⟨k, h1, h2, h3, h4⟩, hr⟩, hne => by
    refine ⟨⟨k, h1, h2, ?_, h4⟩, hr.other hd hlo (fun e he => hne e (List.mem_cons_of_mem _ he))⟩
    have hkj : k ≠ j := fun e => hne c (List.mem_cons_self ..) (by rw [h1, hd, e])
    exact (World.putObj_heap_other hkj).trans h3
theorem leaves_marks {F : Fence} {n : Nat} {P : Program} {fn : Func} {tmps : Array Value} {R : Ending → World → Prop} {lo : Nat} {V : World} (hR : ∀ W', Shut lo V W' → LeavesIn F n P fn tmps R [] .returning W') :
    ∀ (ds : List Deferred) (W : World), Shut lo V W → Marks W lo ds → LeavesInM F n P fn tmps R ds .returning W
  | [], W, hS, _ => hR W hS
  | d :: r, W, hS, ⟨⟨k, h1, h2, h3, h4⟩, hr⟩ => by
    refine ⟨by simp, .inl ⟨k, W.putObj k (.deferred none), by rw [h1], run_takeDeferred h3, ?_⟩⟩
    exact leaves_marks hR r _ (hS.put h2 h3) (hr.other h1 h2 (fun e he => h4 e he))
theorem Marks.push {W : World} {lo k : Nat} {ds : List Deferred} (h : Marks W lo ds) (hk : lo ≤ k) (hd : W.heap[k]? = some (.deferred (some []))) (hne : ∀ e ∈ ds, e ≠ { target := .collected k, args := #[] }) : Marks W lo ({ target := .collected k, args := #[] } :: ds) :=
  ⟨⟨k, rfl, hk, hd, hne⟩, h⟩
theorem Marks.lt {W : World} {lo : Nat} : ∀ {ds : List Deferred}, Marks W lo ds → ∀ e ∈ ds, ∃ k, e = { target := .collected k, args := #[] } ∧ k < W.heap.size
  | [], _, _, h => by cases h
  | _ :: _, ⟨⟨k, h1, _, h3, _⟩, hr⟩, e, he => by
    rcases List.mem_cons.1 he with rfl | he
    · exact ⟨k, h1, (Array.getElem?_eq_some_iff.1 h3).1⟩
    · exact hr.lt e he
/-- All faces, of the darts that are still to come, T being told. -/
def facesF (g : D → Option D) (N : Nat) : List D → List D → List (List D)
  | [], _ => []
  | x :: r, T => if x ∈ T then facesF g N r T else faceL g N x :: facesF g N r (T ++ faceL g N x)
theorem rowsD (L : List D) : rowsV encD L = dartsV L := by
  induction L with
  | nil => rfl
  | cons x L ih =>
    show encD x ++ rowsV encD L = _
    rw [ih]
    rfl
/-- A row whose block lies as it lay. -/
theorem own_at {W W' : World} {lo k n : Nat} {e : TypeId} {v : Value} {xs : List Value} (h : W.ownsRow lo e k v n xs) (hb : ∀ g, v.ownBlock = some g → W'.heap[g]? = W.heap[g]?) : W'.ownsRow lo e k v n xs := by
  refine ⟨h.1, ?_⟩
  rcases h.2 with q | ⟨g, cap, cur, q1, q2, q3, q4⟩
  · exact .inl q
  · exact .inr ⟨g, cap, cur, q1, q2, (hb g (by rw [q1]; rfl)).trans q3, q4⟩
theorem RowsIn.at_ {α : Type} {W W' : World} {lo : Nat} {UR UE : TypeId} {s : Nat} {f : α → List Value} {A : Option Addr} {n c : Nat} {X : List (Rw α)} (h : RowsIn W lo UR UE s f A n c X)
    (hb : ∀ g cs t fr, lo ≤ g → W.heap[g]? = some (.cells cs t fr) → (t = UR ∨ t = UE) → W'.heap[g]? = W.heap[g]?) : RowsIn W' lo UR UE s f A n c X := by
  refine ⟨own_at h.row fun g hg => ?_, h.len, fun x hx => own_at (h.one x hx) fun g hg => ?_, h.ne⟩
  · rcases h.row.2 with ⟨q, _⟩ | ⟨g', cap, cur, q1, q2, q3, q4⟩
    · rw [q] at hg; cases hg
    · rw [q1] at hg
      obtain rfl : g' = g := Option.some.inj hg
      exact hb g' cur UR (0, 0) q2 q3 (.inl rfl)
  · rcases (h.one x hx).2 with ⟨q, _⟩ | ⟨g', cap, cur, q1, q2, q3, q4⟩
    · rw [q] at hg; cases hg
    · rw [q1] at hg
      obtain rfl : g' = g := Option.some.inj hg
      exact hb g' cur UE (0, 0) q2 q3 (.inr rfl)
end Go.Proofs.Ytpindjknngcccaa
