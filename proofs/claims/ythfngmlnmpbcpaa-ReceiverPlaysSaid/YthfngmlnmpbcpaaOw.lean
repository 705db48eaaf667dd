/- A row of the call's own that grows: what stands of it, and an append onto it. -/
import Derived.Test.YthfngmlnmpbcpaaMem
import Derived.Test.YthfngmlnmpbcpaaWo
namespace Go.Proofs.Ythfngmlnmpbcpaa
open Go.RowKit

/-- v is a row of n elements of type e, of the call's own from block B on; nothing that was there in w has turned. -/
structure Ow (w : World) (B : Nat) (e : TypeId) (size : Nat) (v : Value) (n : Nat) (xs : List Value) (W : World) : Prop where
  own : W.ownsRow B e size v n xs
  below : Below w.heap.size w W
  lo : w.heap.size ≤ B
  hi : B ≤ W.heap.size

section
variable {w W W' : World} {B size n : Nat} {e : TypeId} {v : Value} {xs : List Value}
theorem own_up {x y : World} {B n : Nat} {e : TypeId} {size : Nat} {v : Value} {xs : List Value} (h : x.ownsRow B e size v n xs) (hx : Below x.heap.size x y) : y.ownsRow B e size v n xs :=
  h.kept (row := none) ⟨hx.os, hx.tape, hx.output, hx.size, fun i hi _ => hx.block i hi⟩ (by cases hv : v.ownBlock <;> simp)
theorem Ow.up (h : Ow w B e size v n xs W) (hb : Below W.heap.size W W') : Ow w B e size v n xs W' :=
  ⟨own_up h.own hb, h.below.trans (hb.mono h.below.size), h.lo, Nat.le_trans h.hi hb.size⟩
theorem Ow.rds (h : Ow w B e size v n xs W) : ∃ A c, v = .slice A n c ∧ RdS W W.heap.size size A n c xs := RdS.of_own h.own
theorem Ow.new_ {W : World} {cs : Array Value} (hw : Below w.heap.size w W) (hl : w.heap.size ≤ B) (hh : B ≤ W.heap.size) (hn : n ≤ maxLen) (hs : cs.size = n * size) : Ow w B e size (.slice (some ⟨W.heap.size, 0, none⟩) n n) n cs.toList (W.alloc (.cells cs e)) :=
  ⟨own_new rfl hh hn hs rfl, hw.alloc hw.size _, hl, by simp; omega⟩
theorem Ow.nil_ {W : World} (hw : Below w.heap.size w W) (hl : w.heap.size ≤ B) (hh : B ≤ W.heap.size) : Ow w B e size (.slice none 0 0) 0 [] W :=
  ⟨World.ownsRow_nil W B e size, hw, hl, hh⟩
end

theorem wpList_push {P : Program} {w W : World} {ops : Array Oper} {rest : List Oper} {o : Oper} {a : Act} {Q : Exit → Act → World → Prop} (hgd : o.guard = none) (s x : Operand) (t : TypeId)
    (ho : o.op = .call { callee := .builtin .append, args := #[s, x], argTypes := #[t, t] })
    (B : Nat) (e : TypeId) (i : TypeInfo) (z : Value) (size bytes : Nat) (ht : P.underlying t = some (.slice e)) (hi : P.info? e = some i) (hz : i.zero = some z)
    (hsize : i.size = size) (hby : i.bytes = bytes) (hzs : z.cells.size = size) (hsz : 0 < size)
    (v : Value) (n : Nat) (xs : List Value) (hs : a.eval s = v) (how : Ow w B e size v n xs W)
    (BB : Nat) (A : Option Addr) (m c : Nat) (news : List Value) (hx : a.eval x = .slice A m c) (hr : RdS W BB size A m c news) (h1 : ∀ u ∈ news, u.oneCell' = true)
    (h63 : n + m ≤ maxLen) (hbytes : (n + m) * bytes ≤ 140737488355328)
    (h : ∀ v' W', Ow w B e size v' (n + m) (xs ++ news) W' → Below B W W' → wpList P ops Q rest (a.put o.dst v') W') :
    wpList P ops Q (o :: rest) a W := by
  refine wpList_append_rds hgd s x t ho B e i z size bytes ht hi hz hsize hby hzs hsz v n xs hs how.own BB A m c news hx hr h1 h63 hbytes how.hi fun v' w' hown hg _ => ?_
  have hk : ∀ k, v.ownBlock = some k → B ≤ k := fun k hk => (how.own.lt k hk).1
  exact h v' w' ⟨hown, how.below.grown hg how.below.size (fun k e => Nat.le_trans how.lo (hk k e)), how.lo, Nat.le_trans how.hi hg.size⟩ ((Below.refl B W).grown hg how.hi hk)

/-- An append onto a piece that has no room: new memory. -/
theorem run_append_full {P : Program} (w : World) (t ty e : TypeId) (i : TypeInfo) (z : Value) (size bytes : Nat) (ht : P.underlying t = some (.slice e)) (hi : P.info? e = some i) (hz : i.zero = some z)
    (hsize : i.size = size) (hby : i.bytes = bytes) (hzs : z.cells.size = size) (hsz : 0 < size)
    (B B' : Nat) (A A' : Option Addr) (n m c : Nat) (olds news : List Value) (ho : RdS w B size A n n olds) (hn : RdS w B' size A' m c news) (hm : 0 < m) (h0 : 0 < n)
    (h63 : n + m ≤ maxLen) (hbytes : (n + m) * bytes ≤ 140737488355328) :
    ∃ cap w', (Builtin.append_ #[t, t] ty #[.slice A n n, .slice A' m c]).run P w = .ok (.slice (some ⟨w.heap.size, 0, none⟩) (n + m) cap) w' ∧
      w'.ownsRow w.heap.size e size (.slice (some ⟨w.heap.size, 0, none⟩) (n + m) cap) (n + m) (olds ++ news) ∧ Below w.heap.size w w' := by
  subst hsize
  subst hby
  have hsmall : n + m ≤ 9223372036854775807 := by simp only [maxLen] at h63; omega
  cases A with
  | none => have := (ho.none_ rfl).1; omega
  | some b =>
    cases A' with
    | none => have := (hn.none_ rfl).1; omega
    | some a =>
      have hr := run_append_grow (P := P) w t ty e i z ht hi hz b n n olds ho.len (fun j u hj => ho.cell b rfl j u hj) a m c news hn.len (fun j u hj => hn.cell a rfl j u hj) (by omega) (by omega) (growslice_fits (by omega) hbytes)
      have hlen : (olds ++ news).length = (n + m) * i.size := by rw [List.length_append, ho.len, hn.len, Nat.add_mul]
      have hge := grownCap_ge w (n + m) n e
      have hcm : grownCap w (n + m) n e ≤ maxLen := grownCap_le_maxLen w (n + m) n e h63
      refine ⟨_, _, hr, ⟨hlen, .inr ⟨w.heap.size, _, _, rfl, Nat.le_refl _, heap_alloc_new w.drew _, hge, hcm, ?_, ?_⟩⟩, ((Below.refl _ _).drew).alloc (Nat.le_refl _) _⟩
      · simp only [Array.size_append, List.size_toArray, size_zeroCells, hzs, ho.len, hn.len, ← Nat.add_mul]
        congr 1
        omega
      · simp only [Array.toList_append, List.append_assoc]
        rw [← List.append_assoc, ← hlen]
        exact List.take_left

/-- An append of nothing. -/
theorem run_append_none {P : Program} (w : World) (t ty e : TypeId) (i : TypeInfo) (ht : P.underlying t = some (.slice e)) (hi : P.info? e = some i) (A A' : Option Addr) (n c c' : Nat) (hnc : n ≤ c) :
    (Builtin.append_ #[t, t] ty #[.slice A n c, .slice A' 0 c']).run P w = .ok (.slice A n c) w := by
  cases A' <;> cases A <;> simp [Builtin.append_, run_underlying ht, sizeOf, typeInfo, hi, Builtin.lenOf, hnc, Builtin.firstCells, storeCells, loadCells, loadCellsFrom]
end Go.Proofs.Ythfngmlnmpbcpaa
