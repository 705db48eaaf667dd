/- Pieces of slices: the operations s[:k] and s[k:], and what they read as; the elements of a row at a known place. -/
import Derived.Test.YthfngmlnmpbcpaaTree
namespace Go.Proofs.Ythfngmlnmpbcpaa
open Go.RowKit Go.Deep
set_option linter.unusedSimpArgs false

theorem exec_slice_high {P : Program} {ev : Operand → Value} {o : Oper} {w : World} (t e : TypeId) (x hi : Operand) (ho : o.op = .slice t x none (some hi) none) (hu : P.underlying t = some (.slice e)) {s : Nat} (hs : (P.info? e).map (·.size) = some s)
    {A : Option Addr} {n c k : Nat} (hx : ev x = .slice A n c) (hk : ev hi = .int .i64 (k : Int)) (hkc : k ≤ c) : (execOp ev o).run P w = .ok (.value (.slice A k c)) w := by
  cases hq : P.info? e with
  | none => simp [hq] at hs
  | some i =>
    have hi' : i.size = s := by simpa [hq] using hs
    have h1 : (Instr.slice t (.slice A n c) none (some (.int .i64 (k : Int))) none).run P w = .ok (.slice A k c) w := by
      have hb : (Instr.sliceBound (.int .i64 (k : Int)) c .sliceAcap).run P w = .ok (k : Int).toNat w := run_sliceBound _ _ _ _ _ (Int.natCast_nonneg k) (by omega)
      simp only [Instr.slice, Sem.run_bind, run_underlying hu, Result.andThen_ok, Instr.sliceBounds, Sem.run_pure, if_true, hb, sizeOf, typeInfo, hq, Int.toNat_natCast]
      simp [hq, Addr.add]
    unfold execOp
    simp only [ho, Option.map_none, Option.map_some, hx, hk, Sem.run_bind, Sem.run_pure, Result.andThen_ok]
    rw [show (Instr.sliceAt t (.slice A n c) none (some (.int .i64 (k : Int))) none).run P w = (Instr.slice t (.slice A n c) none (some (.int .i64 (k : Int))) none).run P w from by simp [Instr.sliceAt, run_underlying hu], h1]
    rfl

theorem exec_slice_low {P : Program} {ev : Operand → Value} {o : Oper} {w : World} (t e : TypeId) (x lo : Operand) (ho : o.op = .slice t x (some lo) none none) (hu : P.underlying t = some (.slice e)) {s : Nat} (hs : (P.info? e).map (·.size) = some s)
    {A : Option Addr} {n c k : Nat} (hx : ev x = .slice A n c) (hk : ev lo = .int .i64 (k : Int)) (hkn : k ≤ n) : (execOp ev o).run P w = .ok (.value (.slice (if c = k then A else A.map (·.add (k * s))) (n - k) (c - k))) w := by
  cases hq : P.info? e with
  | none => simp [hq] at hs
  | some i =>
    have hi' : i.size = s := by simpa [hq] using hs
    have h1 : (Instr.slice t (.slice A n c) (some (.int .i64 (k : Int))) none none).run P w = .ok (.slice (if c = k then A else A.map (·.add (k * s))) (n - k) (c - k)) w := by
      have hb : (Instr.sliceBound (.int .i64 (k : Int)) n .sliceB).run P w = .ok (k : Int).toNat w := run_sliceBound _ _ _ _ _ (Int.natCast_nonneg k) (by omega)
      simp only [Instr.slice, Sem.run_bind, run_underlying hu, Result.andThen_ok, Instr.sliceBounds, Sem.run_pure, Option.isSome_none, Bool.false_eq_true, if_false, hb, sizeOf, typeInfo, hq, Int.toNat_natCast]
      simp [hq, hi']
    unfold execOp
    simp only [ho, Option.map_none, Option.map_some, hx, hk, Sem.run_bind, Sem.run_pure, Result.andThen_ok]
    rw [show (Instr.sliceAt t (.slice A n c) (some (.int .i64 (k : Int))) none none).run P w = (Instr.slice t (.slice A n c) (some (.int .i64 (k : Int))) none none).run P w from by simp [Instr.sliceAt, run_underlying hu], h1]
    rfl

theorem RdS.low_ {w : World} {B s n c k : Nat} {A : Option Addr} {xs : List Value} (h : RdS w B s A n c xs) (hk : k ≤ n) : RdS w B s (if c = k then A else A.map (·.add (k * s))) (n - k) (c - k) (xs.drop (k * s)) := by
  have hle := h.le
  have hlen := h.len
  refine ⟨by rw [List.length_drop, hlen, Nat.sub_mul], fun e => ?_, by omega, fun a ha hn => ?_, fun a ha j u hu => ?_⟩
  · split at e
    · omega
    · cases hA : A with
      | none => have := h.none_ hA; omega
      | some a => rw [hA] at e; cases e
  · rw [if_neg (by omega)] at ha
    cases hA : A with
    | none => rw [hA] at ha; cases ha
    | some b =>
      rw [hA] at ha
      obtain rfl := Option.some.inj ha
      rw [add_block]
      exact h.low b hA (by omega)
  · have hj : j < (xs.drop (k * s)).length := (List.getElem?_eq_some_iff.1 hu).1
    have hkn : k < n := by
      rcases Nat.lt_or_ge k n with h1 | h1
      · exact h1
      · have : k = n := by omega
        subst this
        rw [List.length_drop, hlen] at hj
        omega
    rw [if_neg (by omega)] at ha
    cases hA : A with
    | none => rw [hA] at ha; cases ha
    | some b =>
      rw [hA] at ha
      obtain rfl := Option.some.inj ha
      rw [add_add]
      rw [List.getElem?_drop] at hu
      exact h.cell b hA _ _ hu

/-- The elements of a row whose place is known. -/
theorem RdS.elem {w : World} {B s n c : Nat} {b off : Nat} {α : Type} {f : α → List Value} {L : List α} (hs : ∀ x, (f x).length = s) (h : RdS w B s (some ⟨b, off, none⟩) n c (rowsV f L)) {k : Nat} {x : α} (hk : L[k]? = some x) :
    ∀ j v, (f x)[j]? = some v → w.cell? (Addr.add ⟨b, off + k * s, none⟩ j) = some v := by
  intro j v hv
  have := h.cell _ rfl _ _ (rowsV_get f hs L k x hk j v hv)
  have e : (⟨b, off, none⟩ : Addr).add (k * s + j) = (⟨b, off + k * s, none⟩ : Addr).add j := by
    simp only [Addr.add_lit, Nat.add_assoc]
  rw [← e]
  exact this
end Go.Proofs.Ythfngmlnmpbcpaa
