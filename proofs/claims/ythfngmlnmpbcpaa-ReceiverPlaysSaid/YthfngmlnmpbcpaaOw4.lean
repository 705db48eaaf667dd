/- An append onto a row of the call's own, and what it leaves of other blocks. -/
import Derived.Test.YthfngmlnmpbcpaaOw
namespace Go.Proofs.Ythfngmlnmpbcpaa
open Go.RowKit

theorem Whole.grown {W W' : World} {g : Nat} {t : TypeId} {cs : List Value} {r : Option Nat} (h : Whole W g t cs) (hg : W.grownBy W' r) (hne : some g ≠ r) : Whole W' g t cs :=
  h.at_ (hg.block g h.lt hne)
/-- A block that was made behind a row is not the row's. -/
theorem Ow.ne_ {w W : World} {B size n g : Nat} {e : TypeId} {v : Value} {xs : List Value} (h : Ow w B e size v n xs W) (hg : W.heap.size ≤ g) : some g ≠ v.ownBlock := fun e => by
  have := (h.own.lt g e.symm).2
  omega

theorem wpList_push2 {P : Program} {w W : World} {ops : Array Oper} {rest : List Oper} {o : Oper} {a : Act} {Q : Exit → Act → World → Prop} (hgd : o.guard = none) (s x : Operand) (t : TypeId)
    (ho : o.op = .call { callee := .builtin .append, args := #[s, x], argTypes := #[t, t] })
    (B : Nat) (e : TypeId) (i : TypeInfo) (z : Value) (size bytes : Nat) (ht : P.underlying t = some (.slice e)) (hi : P.info? e = some i) (hz : i.zero = some z)
    (hsize : i.size = size) (hby : i.bytes = bytes) (hzs : z.cells.size = size) (hsz : 0 < size)
    (v : Value) (n : Nat) (xs : List Value) (hs : a.eval s = v) (how : Ow w B e size v n xs W)
    (BB : Nat) (A : Option Addr) (m c : Nat) (news : List Value) (hx : a.eval x = .slice A m c) (hr : RdS W BB size A m c news) (h1 : ∀ u ∈ news, u.oneCell' = true)
    (h63 : n + m ≤ maxLen) (hbytes : (n + m) * bytes ≤ 140737488355328)
    (h : ∀ v' W', Ow w B e size v' (n + m) (xs ++ news) W' → Below B W W' → W.grownBy W' v.ownBlock → wpList P ops Q rest (a.put o.dst v') W') :
    wpList P ops Q (o :: rest) a W := by
  refine wpList_append_rds hgd s x t ho B e i z size bytes ht hi hz hsize hby hzs hsz v n xs hs how.own BB A m c news hx hr h1 h63 hbytes how.hi fun v' w' hown hg _ => ?_
  have hk : ∀ k, v.ownBlock = some k → B ≤ k := fun k hk => (how.own.lt k hk).1
  exact h v' w' ⟨hown, how.below.grown hg how.below.size (fun k e => Nat.le_trans how.lo (hk k e)), how.lo, Nat.le_trans how.hi hg.size⟩ ((Below.refl B W).grown hg how.hi hk) hg
end Go.Proofs.Ythfngmlnmpbcpaa
