/- Pieces of slices: the operation s[i:k]. -/
import Derived.Test.YthfngmlnmpbcpaaSl
namespace Go.Proofs.Ythfngmlnmpbcpaa
open Go.RowKit Go.Deep
set_option linter.unusedSimpArgs false

theorem exec_slice_both {P : Program} {ev : Operand → Value} {o : Oper} {w : World} (t e : TypeId) (x lo hi : Operand) (ho : o.op = .slice t x (some lo) (some hi) none) (hu : P.underlying t = some (.slice e)) {s : Nat} (hs : (P.info? e).map (·.size) = some s)
    {A : Option Addr} {n c i k : Nat} (hx : ev x = .slice A n c) (hl : ev lo = .int .i64 (i : Int)) (hk : ev hi = .int .i64 (k : Int)) (hik : i ≤ k) (hkc : k ≤ c) : (execOp ev o).run P w = .ok (.value (.slice (if c = i then A else A.map (·.add (i * s))) (k - i) (c - i))) w := by
  cases hq : P.info? e with
  | none => simp [hq] at hs
  | some ie =>
    have hi' : ie.size = s := by simpa [hq] using hs
    have h1 : (Instr.slice t (.slice A n c) (some (.int .i64 (i : Int))) (some (.int .i64 (k : Int))) none).run P w = .ok (.slice (if c = i then A else A.map (·.add (i * s))) (k - i) (c - i)) w := by
      have hb : (Instr.sliceBound (.int .i64 (k : Int)) c .sliceAcap).run P w = .ok (k : Int).toNat w := run_sliceBound _ _ _ _ _ (Int.natCast_nonneg k) (by omega)
      have hb2 : (Instr.sliceBound (.int .i64 (i : Int)) k .sliceB).run P w = .ok (i : Int).toNat w := run_sliceBound _ _ _ _ _ (Int.natCast_nonneg i) (by omega)
      simp only [Instr.slice, Sem.run_bind, run_underlying hu, Result.andThen_ok, Instr.sliceBounds, Sem.run_pure, if_true, hb, sizeOf, typeInfo, hq, Int.toNat_natCast]
      simp [hq, hi', hb2]
    unfold execOp
    simp only [ho, Option.map_none, Option.map_some, hx, hk, hl, Sem.run_bind, Sem.run_pure, Result.andThen_ok]
    rw [show (Instr.sliceAt t (.slice A n c) (some (.int .i64 (i : Int))) (some (.int .i64 (k : Int))) none).run P w = (Instr.slice t (.slice A n c) (some (.int .i64 (i : Int))) (some (.int .i64 (k : Int))) none).run P w from by simp [Instr.sliceAt, run_underlying hu], h1]
    rfl
theorem exec_slice_as {P : Program} {ev : Operand → Value} {o : Oper} {w : World} (t e : TypeId) (x lo hi : Operand) (ho : o.op = .slice t x (some lo) (some hi) none) (hu : P.underlying t = some (.slice e)) {s : Nat} (hs : (P.info? e).map (·.size) = some s)
    {A A' : Option Addr} {n c i k m c' : Nat} (hx : ev x = .slice A n c) (hl : ev lo = .int .i64 (i : Int)) (hk : ev hi = .int .i64 (k : Int)) (hik : i ≤ k) (hkc : k ≤ c) (hA : (if c = i then A else A.map (·.add (i * s))) = A') (hm : k - i = m) (hc : c - i = c') : (execOp ev o).run P w = .ok (.value (.slice A' m c')) w := by
  subst hA hm hc
  exact exec_slice_both t e x lo hi ho hu hs hx hl hk hik hkc
theorem exec_slice_low_as {P : Program} {ev : Operand → Value} {o : Oper} {w : World} (t e : TypeId) (x lo : Operand) (ho : o.op = .slice t x (some lo) none none) (hu : P.underlying t = some (.slice e)) {s : Nat} (hs : (P.info? e).map (·.size) = some s)
    {A A' : Option Addr} {n c k m c' : Nat} (hx : ev x = .slice A n c) (hk : ev lo = .int .i64 (k : Int)) (hkn : k ≤ n) (hA : (if c = k then A else A.map (·.add (k * s))) = A') (hm : n - k = m) (hc : c - k = c') : (execOp ev o).run P w = .ok (.value (.slice A' m c')) w := by
  subst hA hm hc
  exact exec_slice_low t e x lo ho hu hs hx hk hkn
end Go.Proofs.Ythfngmlnmpbcpaa
