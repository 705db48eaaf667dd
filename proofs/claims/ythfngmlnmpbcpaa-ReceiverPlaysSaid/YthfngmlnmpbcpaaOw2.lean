/- An append as an equation, onto a row of the call's own. -/
import Derived.Test.YthfngmlnmpbcpaaOw
import Derived.Test.YthfngmlnmpbcpaaReg
import Derived.Maps.AppendAt
namespace Go.Proofs.Ythfngmlnmpbcpaa
open Go.RowKit

theorem Ow.app {P : Program} {w W : World} (t ty e : TypeId) (i : TypeInfo) (z : Value) (size bytes B : Nat) (ht : P.underlying t = some (.slice e)) (hi : P.info? e = some i) (hz : i.zero = some z)
    (hsize : i.size = size) (hby : i.bytes = bytes) (hzs : z.cells.size = size) (hsz : 0 < size)
    (v : Value) (n : Nat) (xs : List Value) (how : Ow w B e size v n xs W)
    (BB : Nat) (A : Option Addr) (m c : Nat) (news : List Value) (hr : RdS W BB size A m c news) (h1 : ∀ u ∈ news, u.oneCell' = true)
    (h63 : n + m ≤ maxLen) (hbytes : (n + m) * bytes ≤ 140737488355328) :
    ∃ v' W', (Builtin.append_ #[t, t] ty #[v, .slice A m c]).run P W = .ok v' W' ∧ Ow w B e size v' (n + m) (xs ++ news) W' ∧ Below B W W' := by
  cases A with
  | none =>
    obtain ⟨rfl, rfl⟩ := hr.none_ rfl
    have hnil : news = [] := List.eq_nil_of_length_eq_zero (by simpa using hr.len)
    subst hnil
    exact ⟨v, W, run_append_owned_none (P := P) (w := W) B t ty e i size ht hi v n xs how.own, by simpa using how, Below.refl _ _⟩
  | some ad =>
    obtain ⟨v', w', hrun, hown, hg, _, _⟩ := run_append_own_at (P := P) W B t ty e i z size bytes ht hi hz hsize hby hzs hsz v n xs how.own ad m c news hr.len (hr.cell ad rfl) h1 h63 hbytes how.hi
    have hk : ∀ k, v.ownBlock = some k → B ≤ k := fun k hk => (how.own.lt k hk).1
    exact ⟨v', w', hrun, ⟨hown, how.below.grown hg how.below.size (fun k e => Nat.le_trans how.lo (hk k e)), how.lo, Nat.le_trans how.hi hg.size⟩, (Below.refl B W).grown hg how.hi hk⟩

/-- What may turn: blocks from B on. -/
def From_ (B : Nat) (i : Nat) : Prop := B ≤ i
theorem Kept.of_from {B : Nat} {a b : World} (h : Below B a b) : Kept (From_ B) a b := ⟨h.os, h.tape, h.output, h.size, fun i _ hn => h.block i (by unfold From_ at hn; omega)⟩
theorem Kept.from_cell {B : Nat} {w w' : World} (h : Kept (From_ B) w w') {p : Addr} {v : Value} (hp : p.block < B) (hc : w.cell? p = some v) : w'.cell? p = some v :=
  h.cell hc (fun e => by unfold From_ at e; omega)
end Go.Proofs.Ythfngmlnmpbcpaa
