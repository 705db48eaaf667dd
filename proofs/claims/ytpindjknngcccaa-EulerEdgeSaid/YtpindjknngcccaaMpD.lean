/- A map whose keys are darts: what it answers, and which keys it has. -/
import Derived.Test.YtpindjknngcccaaGD
import Derived.Test.YtpindjknngcccaaGA
namespace Go.Proofs.Ytpindjknngcccaa
open Go.RowKit Go.Maps
set_option linter.unusedSimpArgs false
set_option linter.unusedVariables false
set_option linter.unusedSectionVars false

def dV (d : D) : Value := .agg #[.int .i64 d.1, .int .i64 d.2.1, .int .i64 d.2.2]
/-- Block b is a map of at most n entries, with the keys S, that answers as f. -/
def MapD (w : World) (b n : Nat) (f : D → Option Value) (S : List D) : Prop :=
  ∃ Dt : DataW Value, w.ownsMap Try.prog 39 RVv b n Dt ∧ (∀ x, wfD x → has Dt (kD x) = (f x).isSome ∧ ∀ z, Dt.atKey (kD x) (.held z) = .held ((f x).getD z)) ∧ SetD Dt S
section
variable {b n : Nat} {f : D → Option Value} {S : List D} {w w' : World} {x : D} {t e : TypeId}
theorem MapD.lt (h : MapD w b n f S) : b < w.heap.size := let ⟨_, h1, _⟩ := h; World.ownsMap.lt h1
theorem MapD.mono {n' : Nat} (h : MapD w b n f S) (hn : n ≤ n') : MapD w b n' f S := let ⟨D, h1, h2⟩ := h; ⟨D, World.ownsMap.mono h1 hn, h2⟩
theorem MapD.at_ (h : MapD w b n f S) (hb : w'.heap[b]? = w.heap[b]?) : MapD w' b n f S := by
  obtain ⟨D, ⟨es, clock, h1, F, hs, hD⟩, h2⟩ := h
  exact ⟨D, ⟨es, clock, hb.trans h1, F, hs, hD⟩, h2⟩
theorem MapD.kept {S' : Nat → Prop} (h : MapD w b n f S) (hk : Kept S' w w') (hb : ¬ S' b) : MapD w' b n f S := h.at_ (hk.block b h.lt hb)
theorem MapD.bl (h : MapD w b n f S) (hb : Below w.heap.size w w') : MapD w' b n f S := h.kept (Kept.of_below (S := fun _ => False) hb) (fun e => e)
theorem MapD.al (h : MapD w b n f S) (o : Obj) : MapD (w.alloc o) b n f S := h.bl ((Below.refl _ w).alloc (Nat.le_refl _) o)
theorem MapD.dr (h : MapD w b n f S) : MapD w.drew b n f S := h.bl ((Below.refl _ _).drew)
theorem MapD.grown {r : Option Nat} (h : MapD w b n f S) (hg : w.grownBy w' r) (hr : some b ≠ r) : MapD w' b n f S := h.at_ (hg.block b h.lt hr)
theorem MapD.made : MapD (w.alloc (.map #[] 0)) w.heap.size 0 (fun _ => none) [] :=
  ⟨.map [], World.ownsMap_made _ _ _ _, fun x hx => ⟨by simp [has], fun z => WideAt.atKey_none (.held z) (fun p hp => by cases hp)⟩, SetD.empty⟩
theorem MapD.mapF (h : MapD w b n f S) : MapF w keyDart b n f := let ⟨D, h1, h2, _⟩ := h; ⟨D, h1, h2⟩
theorem MapD.keys (h : MapD w b n f S) (hx : wfD x) : x ∈ S ↔ (f x).isSome = true := by
  obtain ⟨Dt, h1, h2, h3⟩ := h
  rw [← (h2 x hx).1, h3.has x hx, decide_eq_true_eq]
theorem MapD.wf (h : MapD w b n f S) : ∀ d ∈ S, wfD d := let ⟨_, _, _, h3⟩ := h; h3.wf
theorem MapD.nd (h : MapD w b n f S) : S.Nodup := let ⟨_, _, _, h3⟩ := h; h3.nd
theorem MapD.put (h : MapD w b n f S) (ht : Try.prog.underlying t = some (.map 39 e)) (hn : n < maxLen) (hx : wfD x) (v : Value) :
    ∃ w', (Instr.mapUpdate t (.map (some b)) (dV x) v).run Try.prog w = .ok () w' ∧ MapD w' b (n + 1) (fun y => if y = x then some v else f y) (insD x S) ∧ w.grownBy w' (some b) := by
  obtain ⟨Dt, h1, h2, h3⟩ := h
  obtain ⟨w', r3, r4, r5⟩ := World.ownsMap.store h1 keyed_dart ht hn (key_dart x hx) (d := .held v) (ps := []) rfl
  refine ⟨w', r3, ⟨_, r4, fun y hy => ?_, h3.put x hx _⟩, r5.grown⟩
  by_cases e : y = x
  · subst e
    simp only [if_pos, Option.isSome_some, Option.getD_some]
    exact ⟨has_put_same (World.ownsMap.isMap h1) (kD_key hy) _, fun z => atKey_put_same (World.ownsMap.isMap h1) (kD_key hy) _ _⟩
  · simp only [if_neg e]
    rw [has_put_other (fun q => e (kD_inj hy hx q))]
    exact ⟨(h2 y hy).1, fun z => by rw [atKey_put_other (fun q => e (kD_inj hy hx q))]; exact (h2 y hy).2 z⟩
variable {ops : Array Oper} {rest : List Oper} {o : Oper} {a : Act} {Q : Exit → Act → World → Prop}
/-- How many entries there are. -/
theorem wl_dLen (hg : o.guard = none) (m : Operand) (hop : o.op = Op.call { callee := Callee.builtin Builtin.len, args := #[m], argTypes := #[t] }) (ht : Try.prog.underlying t = some (.map 39 e)) (hm : a.eval m = .map (some b)) (hS : MapD w b n f S)
    (hK : wpList Try.prog ops Q rest (a.put o.dst (.int .i64 (S.length : Int))) w) : wpList Try.prog ops Q (o :: rest) a w := by
  obtain ⟨Dt, h1, h2, h3⟩ := hS
  refine wpList_len_own w hg m t hop 39 e ht RVv b n Dt hm h1 ?_
  rw [h3.size]
  exact hK
end
end Go.Proofs.Ytpindjknngcccaa
