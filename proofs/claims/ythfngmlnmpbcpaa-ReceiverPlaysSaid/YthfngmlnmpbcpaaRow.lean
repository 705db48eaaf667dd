/- Rows of structs in memory: a list of elements, each some cells; an element taken out of a row; a new variable of the call's own. -/
import Derived.Test.YthfngmlnmpbcpaaReg3
import Derived.Test.YthfngmlnmpbcpaaMem
import Derived.Test.YthfngmlnmpbcpaaCh
import Derived.Deep.WholeRow
import Derived.Great.Walk
namespace Go.Proofs.Ythfngmlnmpbcpaa
open Go.RowKit

section
variable {α : Type} (f : α → List Value)
def rowsV : List α → List Value
  | [] => []
  | x :: l => f x ++ rowsV l
theorem rowsV_length {s : Nat} (hs : ∀ x, (f x).length = s) (l : List α) : (rowsV f l).length = l.length * s := by
  induction l with
  | nil => simp [rowsV]
  | cons x l ih => simp [rowsV, ih, hs, Nat.succ_mul]; omega
theorem rowsV_app (l m : List α) : rowsV f (l ++ m) = rowsV f l ++ rowsV f m := by
  induction l with
  | nil => rfl
  | cons x l ih => simp [rowsV, ih]
theorem rowsV_get {s : Nat} (hs : ∀ x, (f x).length = s) (l : List α) (k : Nat) (x : α) (hk : l[k]? = some x) (j : Nat) (v : Value) (hv : (f x)[j]? = some v) : (rowsV f l)[k * s + j]? = some v := by
  induction l generalizing k with
  | nil => simp at hk
  | cons y l ih =>
    have hj : j < s := by
      rw [← hs x]
      rcases Nat.lt_or_ge j (f x).length with h | h
      · exact h
      · rw [List.getElem?_eq_none h] at hv; cases hv
    cases k with
    | zero =>
      simp at hk
      subst hk
      simp only [rowsV, Nat.zero_mul, Nat.zero_add]
      rw [List.getElem?_append_left (by rw [hs]; exact hj)]
      exact hv
    | succ k =>
      simp only [rowsV]
      rw [List.getElem?_append_right (by rw [hs, Nat.succ_mul]; omega), hs, show (k + 1) * s + j - s = k * s + j by rw [Nat.succ_mul]; omega]
      exact ih k (by simpa using hk)
theorem rowsV_take {s : Nat} (hs : ∀ x, (f x).length = s) (l : List α) (k : Nat) : rowsV f (l.take k) = (rowsV f l).take (k * s) := by
  induction l generalizing k with
  | nil => simp [rowsV]
  | cons x l ih =>
    cases k with
    | zero => simp [rowsV]
    | succ k =>
      simp only [List.take_succ_cons, rowsV, ih, Nat.succ_mul]
      rw [List.take_append, hs, List.take_of_length_le (l := f x) (by rw [hs]; omega), show k * s + s - s = k * s by omega]
theorem rowsV_drop {s : Nat} (hs : ∀ x, (f x).length = s) (l : List α) (k : Nat) : rowsV f (l.drop k) = (rowsV f l).drop (k * s) := by
  induction l generalizing k with
  | nil => simp [rowsV]
  | cons x l ih =>
    cases k with
    | zero => simp [rowsV]
    | succ k =>
      simp only [List.drop_succ_cons, rowsV, ih, Nat.succ_mul]
      rw [List.drop_append, hs, List.drop_of_length_le (l := f x) (by rw [hs]; omega), show k * s + s - s = k * s by omega]
      simp
theorem rowsV_one (h : ∀ x, ∀ u ∈ f x, u.oneCell' = true) (l : List α) : ∀ u ∈ rowsV f l, u.oneCell' = true := by
  induction l with
  | nil => simp [rowsV]
  | cons x l ih =>
    intro u hu
    rcases List.mem_append.1 hu with hu | hu
    · exact h x u hu
    · exact ih u hu
end

section
variable {w : World} {B n c s : Nat} {A : Option Addr} {α : Type} {f : α → List Value} {L : List α}
theorem RdS.rlen (hs : ∀ x, (f x).length = s) (h0 : 0 < s) (h : RdS w B s A n c (rowsV f L)) : L.length = n := by
  have := h.len
  rw [rowsV_length f hs] at this
  exact Nat.eq_of_mul_eq_mul_right h0 this
/-- Where the elements of a row lie. -/
theorem RdS.place (hs : ∀ x, (f x).length = s) (h0 : 0 < s) (h : RdS w B s A n c (rowsV f L)) (hn : 0 < n) :
    ∃ b off, A = some ⟨b, off, none⟩ ∧ b < B ∧ ∀ k x, L[k]? = some x → ∀ j v, (f x)[j]? = some v → w.cell? (Addr.add ⟨b, off + k * s, none⟩ j) = some v := by
  have hl := h.rlen hs h0
  cases A with
  | none => exact absurd (h.none_ rfl).1 (by omega)
  | some a =>
    have ha : ∃ b off, a = ⟨b, off, none⟩ := by
      obtain ⟨b, off, g⟩ := a
      cases g with
      | none => exact ⟨b, off, rfl⟩
      | some g =>
        have hx : L[0]? = some (L[0]'(by omega)) := List.getElem?_eq_getElem (by omega)
        obtain ⟨v, hv⟩ : ∃ v, (f (L[0]'(by omega)))[0]? = some v := ⟨_, List.getElem?_eq_getElem (by rw [hs (L[0]'(by omega))]; exact h0)⟩
        have h1 := h.cell _ rfl _ _ (rowsV_get f hs L 0 _ hx 0 v hv)
        simp [Addr.add, World.cell?] at h1
        split at h1 <;> cases h1
    obtain ⟨b, off, rfl⟩ := ha
    refine ⟨b, off, rfl, h.low _ rfl hn, fun k x hk j v hv => ?_⟩
    have := h.cell _ rfl _ _ (rowsV_get f hs L k x hk j v hv)
    have e : (⟨b, off, none⟩ : Addr).add (k * s + j) = (⟨b, off + k * s, none⟩ : Addr).add j := by
      simp only [Addr.add_lit, Nat.add_assoc]
    rw [← e]
    exact this
end

theorem run_loadAt_at {P : Program} (w : World) (ty : TypeId) (ad : Addr) (cs : List Value) (d : TypeDesc) (hc : ∀ j v, cs[j]? = some v → w.cell? (ad.add j) = some v)
    (hu : P.underlying ty = some d) (hd : (match d with | .struct _ | .array _ _ => true | _ => false) = true) (hi : (P.info? ty).map (·.size) = some cs.length) :
    (Instr.loadAt ty (.pointer (some ad))).run P w = .ok (.agg cs.toArray) w := by
  have hl : (loadCells ad cs.length).run P w = .ok cs.toArray w := run_loadCells_list (P := P) w ad cs hc
  cases hq : P.info? ty with
  | none => simp [hq] at hi
  | some i =>
    have hs : i.size = cs.length := by simpa [hq] using hi
    have hagg : (isAgg ty).run P w = .ok true w := by
      unfold isAgg
      rw [Sem.run_bind, run_underlying hu w]
      cases d <;> simp_all
    simp [Instr.loadAt, Instr.sureAddr, loadVar, Sem.run_bind, hagg, sizeOf, typeInfo, hq, hs, hl]

theorem load_at_run {P : Program} {ev : Operand → Value} {o : Oper} {w : World} (ty : TypeId) (x : Operand) (ho : o.op = .load ty x) (ad : Addr) (hx : ev x = .pointer (some ad)) (cs : List Value) (d : TypeDesc)
    (hc : ∀ j v, cs[j]? = some v → w.cell? (ad.add j) = some v)
    (hu : P.underlying ty = some d) (hd : (match d with | .struct _ | .array _ _ => true | _ => false) = true) (hi : (P.info? ty).map (·.size) = some cs.length) :
    (execOp ev o).run P w = .ok (.value (.agg cs.toArray)) w := by
  unfold execOp
  simp only [ho, hx, Sem.run_bind, Sem.run_pure, Result.andThen_ok, run_loadAt_at w ty ad cs d hc hu hd hi]

theorem exec_buildSlice {P : Program} {ev : Operand → Value} {o : Oper} {w : World} (t e : TypeId) (len : Nat) (parts : Array (Nat × Operand)) (ho : o.op = .buildSlice t len parts) (hu : P.underlying t = some (.slice e)) (cells : Array Value)
    (hf : P.builtSlice e len (parts.map fun (i, x) => (i, ev x)).toList = some cells) : (execOp ev o).run P w = .ok (.value (.slice (some ⟨w.heap.size, 0, none⟩) len len)) (w.alloc (.cells cells e)) := by
  have hb : (Instr.buildSlice t len (parts.map fun (i, x) => (i, ev x))).run P w = .ok (.slice (some ⟨w.heap.size, 0, none⟩) len len) (w.alloc (.cells cells e)) := by
    unfold Program.builtSlice at hf
    cases hie : P.info? e with
    | none => simp [hie] at hf
    | some ie =>
      simp only [hie] at hf
      cases hz : ie.zero with
      | none => simp [hz] at hf
      | some z =>
        simp only [hz] at hf
        by_cases hc : len * ie.size > 2 ^ 24 ∨ len * ie.size = 0
        · simp [hc] at hf
        · rw [if_neg hc] at hf
          exact run_buildSlice w t e len _ cells ie z hu hie hz (fun h' => hc (Or.inl h')) (fun h' => hc (Or.inr h')) hf
  unfold execOp
  simp only [ho, Sem.run_bind, Sem.run_pure, Result.andThen_ok, hb]

theorem RdS.take_ {w : World} {B size n c : Nat} {A : Option Addr} {xs : List Value} (h : RdS w B size A n c xs) (k : Nat) (hk : k ≤ n) : RdS w B size A k c (xs.take (k * size)) := by
  have hlen := h.len
  have hm : k * size ≤ n * size := Nat.mul_le_mul_right _ hk
  refine ⟨by rw [List.length_take]; omega, fun e => ?_, Nat.le_trans hk h.le, fun a ha h0 => h.low a ha (by omega), fun a ha j u hu => ?_⟩
  · have := h.none_ e
    omega
  · rw [List.getElem?_take] at hu
    split at hu
    · exact h.cell a ha j u hu
    · cases hu

section
variable {P : Program} {ops : Array Oper} {rest : List Oper} {o o' : Oper} {a : Act} {w : World} {Q : Exit → Act → World → Prop} {S : Nat → Prop}
/-- A struct taken out of where it lies. -/
theorem wl_load_at (d : Option Tmp) (hd : o.dst = d) (hw : Region.wanted o (yielded ops a.tmps) = true) (ty : TypeId) (x : Operand) (ho : o.op = .load ty x) (ad : Addr) (hx : a.eval x = .pointer (some ad)) (cs : List Value) (td : TypeDesc)
    (hc : ∀ j v, cs[j]? = some v → w.cell? (ad.add j) = some v)
    (hu : P.underlying ty = some td) (hs : (match td with | .struct _ | .array _ _ => true | _ => false) = true) (hi : (P.info? ty).map (·.size) = some cs.length)
    (h : wpList P ops Q rest (a.put d (.agg cs.toArray)) w) : wpList P ops Q (o :: rest) a w := wl_read d hd hw (load_at_run ty x ho ad hx cs td hc hu hs hi) h
theorem yr_load_at (h : Region.wanted o (yielded ops a.tmps) = true) (ty : TypeId) (x : Operand) (ho : o.op = .load ty x) (ad : Addr) (hx : a.eval x = .pointer (some ad)) (cs : List Value) (td : TypeDesc)
    (hc : ∀ w', Kept S w w' → ∀ j v, cs[j]? = some v → w'.cell? (ad.add j) = some v)
    (hu : P.underlying ty = some td) (hs : (match td with | .struct _ | .array _ _ => true | _ => false) = true) (hi : (P.info? ty).map (·.size) = some cs.length) :
    YieldsR P ops S o (.agg cs.toArray) a w := yr_run h fun w' hw => load_at_run ty x ho ad hx cs td (hc w' hw) hu hs hi
/-- A slice literal. -/
theorem wl_buildSlice (d : Option Tmp) (hd : o.dst = d) (hw : Region.wanted o (yielded ops a.tmps) = true) (t e : TypeId) (len : Nat) (parts : Array (Nat × Operand)) (ho : o.op = .buildSlice t len parts) (hu : P.underlying t = some (.slice e)) (cells : Array Value)
    (hf : P.builtSlice e len (parts.map fun (i, x) => (i, a.eval x)).toList = some cells)
    (h : wpList P ops Q rest (a.put d (.slice (some ⟨w.heap.size, 0, none⟩) len len)) (w.alloc (.cells cells e))) : wpList P ops Q (o :: rest) a w :=
  wl_run d hd hw (exec_buildSlice t e len parts ho hu cells hf) h
/-- A new variable, and what is stored into it at once. -/
theorem wl_new (p : Tmp) (hd : o.dst = some p) (hg : o.guard = none) (hg' : o'.guard = none) (ty : TypeId) (y : Operand) (ho' : o'.op = .store ty (.tmp p) y) (hd' : o'.dst = none) (zc : Array Value)
    (hal : (execOp a.eval o).run P w = .ok (.value (.pointer (some ⟨w.heap.size, 0, none⟩))) (w.alloc (.cells zc ty)))
    (cs : Array Value) (hp : p < a.tmps.size) (hy : (a.put (some p) (.pointer (some ⟨w.heap.size, 0, none⟩))).eval y = .agg cs)
    (hi : (P.info? ty).map (·.size) = some cs.size) (hsz : zc.size = cs.size) (h1 : cs.all (·.oneCell') = true)
    (h : wpList P ops Q rest (a.put (some p) (.pointer (some ⟨w.heap.size, 0, none⟩))) (w.alloc (.cells cs ty))) : wpList P ops Q (o :: o' :: rest) a w := by
  refine Great.wpList_allocTo hg (some p) hd _ (.cells zc ty) hal ?_
  refine wpList_store_row hg' ty (.tmp p) y ho' w.heap.size cs ?_ hy ty zc (heap_alloc_last _ _) hi hsz h1 ?_
  · simp [Act.put, Act.eval, Array.getD, hp]
  · rw [World.setRow_alloc_new, hd']
    exact h
end
end Go.Proofs.Ythfngmlnmpbcpaa
