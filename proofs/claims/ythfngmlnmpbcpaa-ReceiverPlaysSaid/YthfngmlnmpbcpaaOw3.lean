/- A growing row that began as an empty one from before: told either way. -/
import Derived.Test.YthfngmlnmpbcpaaOw2
namespace Go.Proofs.Ythfngmlnmpbcpaa
open Go.RowKit

theorem ownsRow_lo {w : World} {B B' n : Nat} {e : TypeId} {size : Nat} {v : Value} {xs : List Value} (h : w.ownsRow B e size v n xs) (hB : B' ≤ B) : w.ownsRow B' e size v n xs := by
  refine ⟨h.1, ?_⟩
  rcases h.2 with h | ⟨g, cap, cur, h1, h2, h3⟩
  · exact .inl h
  · exact .inr ⟨g, cap, cur, h1, Nat.le_trans hB h2, h3⟩

theorem wpList_app {P : Program} {w w' : World} {ops : Array Oper} {rest : List Oper} {o : Oper} {a : Act} {Q : Exit → Act → World → Prop} (hgd : o.guard = none) (s x : Operand) (t : TypeId)
    (ho : o.op = .call { callee := .builtin .append, args := #[s, x], argTypes := #[t, t] }) {v u v' : Value} (hs : a.eval s = v) (hx : a.eval x = u)
    (hrun : (Builtin.append_ #[t, t] o.type #[v, u]).run P w = .ok v' w') (h : wpList P ops Q rest (a.put o.dst v') w') : wpList P ops Q (o :: rest) a w := by
  refine wpList_plain hgd fun K hK => ?_
  unfold Oper.wp
  simp [execOp, ho, resolve, invoke, builtin, hs, hx, hrun, Result.andThen]
  exact hK _ _ h

/-- v is as yet the empty row at g0, or a row of the call's own. -/
def Gr (w : World) (g0 : Nat) (e : TypeId) (size : Nat) (v : Value) (n : Nat) (xs : List Value) (W : World) : Prop :=
  (n = 0 ∧ xs = [] ∧ v = .slice (some ⟨g0, 0, none⟩) 0 0 ∧ Below w.heap.size w W) ∨ Ow w w.heap.size e size v n xs W
theorem Gr.below {w W : World} {g0 size n : Nat} {e : TypeId} {v : Value} {xs : List Value} (h : Gr w g0 e size v n xs W) : Below w.heap.size w W := by
  rcases h with ⟨_, _, _, h⟩ | h
  · exact h
  · exact h.below
theorem Gr.up {w W W' : World} {g0 size n : Nat} {e : TypeId} {v : Value} {xs : List Value} (h : Gr w g0 e size v n xs W) (hb : Below W.heap.size W W') : Gr w g0 e size v n xs W' := by
  rcases h with ⟨h1, h2, h3, h⟩ | h
  · exact .inl ⟨h1, h2, h3, h.trans (hb.mono h.size)⟩
  · exact .inr (h.up hb)
theorem Gr.rds {w W : World} {g0 size n : Nat} {e : TypeId} {v : Value} {xs : List Value} (h : Gr w g0 e size v n xs W) : ∃ A c, v = .slice A n c ∧ RdS W W.heap.size size A n c xs := by
  rcases h with ⟨rfl, rfl, rfl, h⟩ | h
  · exact ⟨_, _, rfl, ⟨by simp, fun e => (by cases e), Nat.le_refl _, fun _ _ h => absurd h (by omega), fun _ _ j u hj => by simp at hj⟩⟩
  · exact h.rds
theorem Gr.app {P : Program} {w W : World} (t ty e : TypeId) (i : TypeInfo) (z : Value) (size bytes g0 : Nat) (ht : P.underlying t = some (.slice e)) (hi : P.info? e = some i) (hz : i.zero = some z)
    (hsize : i.size = size) (hby : i.bytes = bytes) (hzs : z.cells.size = size) (hsz : 0 < size)
    (v : Value) (n : Nat) (xs : List Value) (how : Gr w g0 e size v n xs W)
    (BB : Nat) (A : Option Addr) (m c : Nat) (news : List Value) (hr : RdS W BB size A m c news) (h1 : ∀ u ∈ news, u.oneCell' = true) (hm : 0 < m)
    (h63 : n + m ≤ maxLen) (hbytes : (n + m) * bytes ≤ 140737488355328) :
    ∃ v' W', (Builtin.append_ #[t, t] ty #[v, .slice A m c]).run P W = .ok v' W' ∧ Gr w g0 e size v' (n + m) (xs ++ news) W' ∧ Below w.heap.size W W' := by
  rcases how with ⟨rfl, rfl, rfl, hb⟩ | how
  · subst hsize
    subst hby
    have hsmall : 0 + m ≤ 9223372036854775807 := by simp only [maxLen] at h63; omega
    cases A with
    | none => have := (hr.none_ rfl).1; omega
    | some a =>
      have hrun := run_append_grow (P := P) W t ty e i z ht hi hz ⟨g0, 0, none⟩ 0 0 [] (by simp) (fun j u hj => by simp at hj) a m c news hr.len (fun j u hj => hr.cell a rfl j u hj) (by omega) (by omega) (growslice_fits (by omega) hbytes)
      have hlen : ([] ++ news).length = (0 + m) * i.size := by rw [List.nil_append, hr.len, Nat.zero_add]
      have hge := grownCap_ge W (0 + m) 0 e
      have hcm : grownCap W (0 + m) 0 e ≤ maxLen := grownCap_le_maxLen W (0 + m) 0 e h63
      obtain ⟨G, gG⟩ : ∃ G, grownCap W (0 + m) 0 e = G := ⟨_, rfl⟩
      rw [gG] at hrun hge hcm
      have hb1 : Below W.heap.size W (W.drew.alloc (.cells (#[] ++ news.toArray ++ Builtin.zeroCells z.cells (G - (0 + m))) e)) := ((Below.refl _ _).drew).alloc (Nat.le_refl _) _
      refine ⟨_, _, hrun, .inr ⟨⟨hlen, .inr ⟨W.heap.size, _, _, rfl, hb.size, heap_alloc_new W.drew _, hge, hcm, ?_, ?_⟩⟩, hb.trans (hb1.mono hb.size), Nat.le_refl _, Nat.le_trans hb.size hb1.size⟩, hb1.mono hb.size⟩
      · simp only [Array.size_append, List.size_toArray, size_zeroCells, hzs, hr.len, List.length_nil, Nat.zero_add, ← Nat.add_mul]
        congr 1
        omega
      · simp only [Array.toList_append, List.append_assoc]
        rw [← List.append_assoc, ← hlen]
        exact List.take_left
  · obtain ⟨v', W', h1, h2, h3⟩ := Ow.app (P := P) t ty e i z size bytes w.heap.size ht hi hz hsize hby hzs hsz v n xs how BB A m c news hr h1 h63 hbytes
    exact ⟨v', W', h1, .inr h2, h3⟩

/-- A write to another block. -/
theorem RdS.far {w : World} {size n c : Nat} {A : Option Addr} {xs : List Value} (h : RdS w w.heap.size size A n c xs) {p : Addr} (hp : 0 < n → ∀ a, A = some a → a.block ≠ p.block) (u : Value) : RdS (w.setCell p u) (w.setCell p u).heap.size size A n c xs := by
  have hs : (w.setCell p u).heap.size = w.heap.size := by simp [World.setCell]
  refine ⟨h.len, h.none_, h.le, fun a e hn => by rw [hs]; exact h.low a e hn, fun a e j v hj => ?_⟩
  have hn : 0 < n := by
    rcases Nat.eq_zero_or_pos n with h0 | h0
    · subst h0
      have := h.len
      rw [Nat.zero_mul] at this
      rw [List.eq_nil_of_length_eq_zero this] at hj
      simp at hj
    · exact h0
  rw [← h.cell a e j v hj]
  refine World.cell?_of_block (Below.heap_setCell w p u _ ?_)
  rw [add_block]
  exact hp hn a e
end Go.Proofs.Ythfngmlnmpbcpaa
