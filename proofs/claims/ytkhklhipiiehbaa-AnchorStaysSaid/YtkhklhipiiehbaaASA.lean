/- Several texts in one. -/
import Derived.WalkKit
import Derived.Deep.Slices
import Derived.Lib.SmallJoins
import Derived.Deep.AppendLies
import Derived.Maps.AppendAt
import Derived.Laws.AppendOwnNone
import Derived.Below
import Derived.Laws.OwnMore
import Derived.Laws.NewBlocks
import Derived.Lib.Hide
import Derived.OrdersHeld
import Derived.Deep.DeepCutAuto
import Derived.LoopTactic
import Derived.Outline
import Derived.Deep.QuietTactic
import Derived.BigQuiet
import Derived.IntWalk
import Derived.Laws.Rows
import Derived.Deep.WholeRow
import Derived.Great.Walk
import Derived.Laws.Tables
import Derived.Deep.MidRow
import Derived.Test.YtkhklhipiiehbaaProg
import Derived.WalkSpells
import Derived.WalkLawsBesides
import Derived.KernelRfl
import Derived.Laws.RangeString
import Derived.Laws.RangeAny
import Derived.Maps.OwnSet
import Derived.Deep.CutBlock
import Derived.DeepKeys4
import Derived.Laws.ResultCell

/- Words for all layers, in one text. -/
namespace Go.Proofs.Ytkhklhipiiehbaa
open Go.RowKit

/-- The slice value of address A, length n, capacity c holds the cells xs, and lies below block B. -/
structure RdS (w : World) (B size : Nat) (A : Option Addr) (n c : Nat) (xs : List Value) : Prop where
  len : xs.length = n * size
  none_ : A = none → n = 0 ∧ c = 0
  le : n ≤ c
  low : ∀ a, A = some a → 0 < n → a.block < B
  cell : ∀ a, A = some a → ∀ j u, xs[j]? = some u → w.cell? (a.add j) = some u

theorem add_block (a : Addr) (n : Nat) : (a.add n).block = a.block := by unfold Addr.add; split <;> rfl

theorem RdS.pos {w : World} {B size n c : Nat} {A : Option Addr} {xs : List Value} (h : RdS w B size A n c xs) {j : Nat} {u : Value} (hu : xs[j]? = some u) : 0 < n := by
  have h1 : j < xs.length := by
    rcases Nat.lt_or_ge j xs.length with h1 | h1
    · exact h1
    · rw [List.getElem?_eq_none h1] at hu
      cases hu
  rcases Nat.eq_zero_or_pos n with h0 | h0
  · rw [h.len, h0] at h1
    omega
  · exact h0

theorem RdS.keep {w w' : World} {B size n c : Nat} {A : Option Addr} {xs : List Value} (h : RdS w B size A n c xs) (hk : ∀ p : Addr, p.block < B → w'.cell? p = w.cell? p) : RdS w' B size A n c xs :=
  ⟨h.len, h.none_, h.le, h.low, fun a ha j u hu => (hk _ (by rw [add_block]; exact h.low a ha (h.pos hu))).trans (h.cell a ha j u hu)⟩
theorem RdS.below {w w' : World} {B size n c : Nat} {A : Option Addr} {xs : List Value} (h : RdS w B size A n c xs) (hb : Below B w w') : RdS w' B size A n c xs := h.keep fun _ hp => hb.cell hp


theorem RdS.up {w w' : World} {B B' size n c : Nat} {A : Option Addr} {xs : List Value} (h : RdS w B size A n c xs) (hb : Below B w w') (hB : B ≤ B') : RdS w' B' size A n c xs :=
  have h' := h.below hb
  ⟨h'.len, h'.none_, h'.le, fun a ha hn => Nat.lt_of_lt_of_le (h'.low a ha hn) hB, h'.cell⟩

/-- A row of the call's own reads as what it holds. -/
theorem RdS.of_own {w : World} {base size n : Nat} {e : TypeId} {v : Value} {xs : List Value} (h : w.ownsRow base e size v n xs) : ∃ A c, v = .slice A n c ∧ RdS w w.heap.size size A n c xs := by
  rcases h.2 with ⟨rfl, rfl⟩ | ⟨g, cap, cur, rfl, hb, hg, hnc, hcm, hcs, ht⟩
  · exact ⟨none, 0, rfl, ⟨h.1, fun _ => ⟨rfl, rfl⟩, Nat.le_refl _, fun a ha => (by cases ha), fun a ha => (by cases ha)⟩⟩
  · refine ⟨_, cap, rfl, ⟨h.1, fun e => (by cases e), hnc, fun a ha _ => ?_, fun a ha j u hu => ?_⟩⟩
    · obtain rfl := Option.some.inj ha
      exact (h.lt g rfl).2
    · obtain rfl := Option.some.inj ha
      exact h.cells (g := g) rfl j u hu

/-- A new block reads as the slice over all of it. -/
theorem RdS.of_new {cs : Array Value} {t : TypeId} (w : World) {n size : Nat} (hn : cs.toList.length = n * size) : RdS (w.alloc (.cells cs t)) (w.heap.size + 1) size (some ⟨w.heap.size, 0, none⟩) n n cs.toList :=
  ⟨hn, fun e => (by cases e), Nat.le_refl _, fun a ha _ => (by obtain rfl := Option.some.inj ha; simp), fun a ha => (by obtain rfl := Option.some.inj ha; exact World.news_of_block (fr := (0, 0)) (heap_alloc_new w _))⟩

theorem RdS.new_ {w : World} {cs : Array Value} {t : TypeId} {n size g B : Nat} {xs : List Value} (hg : g = w.heap.size) (hB : g < B) (hx : xs = cs.toList) (hn : xs.length = n * size) : RdS (w.alloc (.cells cs t)) B size (some ⟨g, 0, none⟩) n n xs := by
  subst hg hx
  have h := RdS.of_new (t := t) w hn
  exact ⟨h.len, h.none_, h.le, fun a ha _ => (by obtain rfl := Option.some.inj ha; exact hB), h.cell⟩

/-- A new block is a row of the call's own, all of it. -/
theorem own_new {w : World} {e : TypeId} {base size g n : Nat} {cs : Array Value} {xs : List Value} (hg : g = w.heap.size) (hb : base ≤ g) (hm : n ≤ maxLen) (hs : cs.size = n * size) (hx : xs = cs.toList) :
    (w.alloc (.cells cs e)).ownsRow base e size (.slice (some ⟨g, 0, none⟩) n n) n xs := by
  subst hg hx
  exact World.ownsRow_lit w cs n hb hm hs

theorem wpList_append_rds {P : Program} {w : World} {ops : Array Oper} {rest : List Oper} {o : Oper} {a : Act} {Q : Exit → Act → World → Prop} (hgd : o.guard = none) (s x : Operand) (t : TypeId)
    (ho : o.op = .call { callee := .builtin .append, args := #[s, x], argTypes := #[t, t] })
    (base : Nat) (e : TypeId) (i : TypeInfo) (z : Value) (size bytes : Nat) (ht : P.underlying t = some (.slice e)) (hi : P.info? e = some i) (hz : i.zero = some z)
    (hsize : i.size = size) (hby : i.bytes = bytes) (hzs : z.cells.size = size) (hsz : 0 < size)
    (v : Value) (n : Nat) (xs : List Value) (hs : a.eval s = v) (hown : w.ownsRow base e size v n xs)
    (B : Nat) (A : Option Addr) (m c : Nat) (news : List Value) (hx : a.eval x = .slice A m c) (hr : RdS w B size A m c news) (h1 : ∀ u ∈ news, u.oneCell' = true)
    (h63 : n + m ≤ maxLen) (hbytes : (n + m) * bytes ≤ 140737488355328) (hbase : base ≤ w.heap.size)
    (h : ∀ v' w', w'.ownsRow base e size v' (n + m) (xs ++ news) → w.grownBy w' v.ownBlock → (v'.ownBlock = v.ownBlock ∨ v'.ownBlock = some w.heap.size) → wpList P ops Q rest (a.put o.dst v') w') :
    wpList P ops Q (o :: rest) a w := by
  cases A with
  | none =>
    obtain ⟨rfl, rfl⟩ := hr.none_ rfl
    have hnil : news = [] := List.eq_nil_of_length_eq_zero (by simpa using hr.len)
    subst hnil
    exact wpList_append_own_none hgd s x t ho base e i size ht hi v n xs hs hown hx (h v w (by simpa using hown) (World.grownBy.refl w _) (.inl rfl))
  | some ad =>
    exact wpList_append_own_at w hgd s x t ho base e i z size bytes ht hi hz hsize hby hzs hsz v n xs hs hown ad m c news hx hr.len (hr.cell ad rfl) h1 h63 hbytes hbase fun v' w' a1 a2 _ a4 => h v' w' a1 a2 a4

end Go.Proofs.Ytkhklhipiiehbaa

/- Words for memory: a block known whole; what a call that writes to some blocks leaves as it was. -/
namespace Go.Proofs.Ytkhklhipiiehbaa
open Go.RowKit

/-- Block g is just the cells cs of element type t. -/
def Whole (w : World) (g : Nat) (t : TypeId) (cs : List Value) : Prop := w.heap[g]? = some (.cells cs.toArray t (0, 0))

section
variable {w w' : World} {g : Nat} {t : TypeId} {cs : List Value}
theorem Whole.lt (h : Whole w g t cs) : g < w.heap.size := (Array.getElem?_eq_some_iff.1 h).1
theorem Whole.cell (h : Whole w g t cs) {i : Nat} {v : Value} (hv : cs[i]? = some v) : w.cell? ⟨g, i, none⟩ = some v := by
  rw [cell_of_row w g i _ t (0, 0) h, List.getElem?_toArray, hv]
theorem Whole.free (h : Whole w g t cs) (i : Nat) : w.frozen? ⟨g, i, none⟩ = false := frozen_of_row w g i _ t h
theorem Whole.new_ (w : World) (t : TypeId) (cs : List Value) : Whole (w.alloc (.cells cs.toArray t)) w.heap.size t cs := heap_alloc_new w _
theorem Whole.new2 {w : World} {g : Nat} {t : TypeId} {cs : List Value} (hg : g = w.heap.size) : Whole (w.alloc (.cells cs.toArray t)) g t cs := by
  subst hg
  exact Whole.new_ w t cs
theorem Whole.alloc (h : Whole w g t cs) (o : Obj) : Whole (w.alloc o) g t cs := (Below.heap_alloc w o g h.lt).trans h
theorem Whole.drew (h : Whole w g t cs) : Whole w.drew g t cs := h
theorem Whole.set_ (h : Whole w g t cs) (i : Nat) (u : Value) : Whole (w.setCell ⟨g, i, none⟩ u) g t (cs.set i u) := by
  unfold Whole at h ⊢
  simp [World.setCell, Array.getElem?_modify, h]
theorem Whole.far (h : Whole w g t cs) {p : Addr} (hp : g ≠ p.block) (u : Value) : Whole (w.setCell p u) g t cs := (Below.heap_setCell w p u g hp).trans h
theorem Whole.at_ (h : Whole w g t cs) (hb : w'.heap[g]? = w.heap[g]?) : Whole w' g t cs := hb.trans h
theorem Whole.below (h : Whole w g t cs) (hb : Below w.heap.size w w') : Whole w' g t cs := h.at_ (hb.block g h.lt)
theorem Whole.ne_ {g' : Nat} {t' : TypeId} {cs' : List Value} (h : Whole w g t cs) (h' : Whole w g' t' cs') (hne : t ≠ t') : g ≠ g' := by
  rintro rfl
  unfold Whole at h h'
  rw [h] at h'
  injection h' with h'
  injection h' with _ ht
  exact hne ht
end

/-- Of the blocks that were there those outside S are as they were. -/
structure Kept (S : Nat → Prop) (w w' : World) : Prop where
  os : w'.os = w.os
  tape : w'.tape = w.tape
  output : w'.output = w.output
  size : w.heap.size ≤ w'.heap.size
  block : ∀ i, i < w.heap.size → ¬ S i → w'.heap[i]? = w.heap[i]?

theorem Kept.refl (S : Nat → Prop) (w : World) : Kept S w w := ⟨rfl, rfl, rfl, Nat.le_refl _, fun _ _ _ => rfl⟩
theorem Kept.trans {S : Nat → Prop} {a b c : World} (h : Kept S a b) (k : Kept S b c) : Kept S a c :=
  ⟨k.os.trans h.os, k.tape.trans h.tape, k.output.trans h.output, Nat.le_trans h.size k.size, fun i hi hn => (k.block i (Nat.lt_of_lt_of_le hi h.size) hn).trans (h.block i hi hn)⟩
theorem Kept.of_below {S : Nat → Prop} {a b : World} (h : Below a.heap.size a b) : Kept S a b := ⟨h.os, h.tape, h.output, h.size, fun i hi _ => h.block i hi⟩
theorem Kept.below {S : Nat → Prop} {a b : World} {B : Nat} (h : Kept S a b) (hB : B ≤ a.heap.size) (hS : ∀ i, i < B → ¬ S i) : Below B a b := ⟨h.os, h.tape, h.output, h.size, fun i hi => h.block i (by omega) (hS i hi)⟩
theorem Kept.drew {S : Nat → Prop} {a b : World} (h : Kept S a b) : Kept S a b.drew := ⟨h.os, h.tape, h.output, h.size, h.block⟩
theorem Kept.alloc {S : Nat → Prop} {a b : World} (h : Kept S a b) (o : Obj) : Kept S a (b.alloc o) :=
  h.trans ⟨rfl, rfl, rfl, by simp, fun i hi _ => Below.heap_alloc _ _ _ hi⟩
theorem Kept.setCell {S : Nat → Prop} {a b : World} (h : Kept S a b) {p : Addr} (hp : S p.block ∨ a.heap.size ≤ p.block) (u : Value) : Kept S a (b.setCell p u) :=
  ⟨h.os, h.tape, h.output, by simpa [World.setCell] using h.size, fun i hi hn => (Below.heap_setCell _ _ _ _ (by
    rintro rfl
    rcases hp with hp | hp
    · exact hn hp
    · omega)).trans (h.block i hi hn)⟩
theorem Kept.cell {S : Nat → Prop} {w w' : World} (h : Kept S w w') {p : Addr} {v : Value} (hc : w.cell? p = some v) (hn : ¬ S p.block) : w'.cell? p = some v :=
  (World.cell?_of_block (w := w) (h.block p.block (World.block_lt_of_cell? w p hc) hn)).trans hc
theorem Kept.whole {S : Nat → Prop} {w w' : World} {g : Nat} {t : TypeId} {cs : List Value} (h : Kept S w w') (hg : Whole w g t cs) (hn : ¬ S g) : Whole w' g t cs :=
  hg.at_ (h.block g hg.lt hn)
end Go.Proofs.Ytkhklhipiiehbaa

/- A region that draws its order, whose operations read, or call what answers the same in every later world and only makes new memory: it may be walked in one order. -/
namespace Go.Proofs.Ytkhklhipiiehbaa
open Go.RowKit

/-- w' is w with new blocks: nothing that was there has turned. -/
def Ext (w w' : World) : Prop := Below w.heap.size w w'
theorem Ext.refl (w : World) : Ext w w := Below.refl _ _
theorem Ext.trans {a b c : World} (h : Ext a b) (k : Ext b c) : Ext a c := Below.trans h (Below.mono k (Below.size h))
theorem Ext.cell {w w' : World} (h : Ext w w') {p : Addr} {v : Value} (hc : w.cell? p = some v) : w'.cell? p = some v := (Below.cell h (World.block_lt_of_cell? w p hc)).trans hc

section
variable {P : Program} {ops : Array Oper} {Q : Exit → Act → World → Prop} {md : Region.Mode}

/-- What an operation comes to: the value v, and a world that has only grown. -/
def Outcome (P : Program) (v : Value) (w : World) : Result Next → Prop
  | .ok (.value u) w' => u = v ∧ Ext w w'
  | .ok (.enter f args) w' => Calls P f args w' fun e w'' => e = .returned v ∧ Ext w w''
  | _ => False

/-- In state a, in w and in every world that w grows to, operation o yields v and only makes new memory. -/
def YieldsK (P : Program) (ops : Array Oper) (o : Oper) (v : Value) (a : Act) (w : World) : Prop :=
  (Region.wanted o (yielded ops a.tmps) = true ∧ ∀ w', Ext w w' → Outcome P v w' ((execOp a.eval o).run P w')) ∨
  (Region.wanted o (yielded ops a.tmps) = false ∧ v = undef)

theorem YieldsK.up {o : Oper} {v : Value} {a : Act} {w w' : World} (h : YieldsK P ops o v a w) (hw : Ext w w') : YieldsK P ops o v a w' :=
  match h with
  | .inl ⟨h1, h2⟩ => .inl ⟨h1, fun w'' h' => h2 w'' (hw.trans h')⟩
  | .inr h2 => .inr h2

theorem YieldsK.same {o : Oper} {v : Value} {a a' : Act} {w : World} (hy : YieldsK P ops o v a w) (he : execOp a'.eval o = execOp a.eval o)
    (hw : Region.wanted o (yielded ops a'.tmps) = Region.wanted o (yielded ops a.tmps)) : YieldsK P ops o v a' w := by
  unfold YieldsK at *
  rw [he, hw]
  exact hy

theorem YieldsK.wpOp {i : Nat} {o : Oper} {v : Value} {a : Act} {w : World} (hi : ops[i]? = some o) (hy : YieldsK P ops o v a w)
    {K : Act → World → Prop} (h : ∀ w', Ext w w' → K (a.put o.dst v) w') : wpOp P ops Q i K a w := by
  unfold Go.wpOp
  simp only [hi]
  rcases hy with ⟨hw, hv⟩ | ⟨hw, rfl⟩
  · simp only [hw, if_true]
    refine .inl ?_
    have h1 := hv w (Ext.refl w)
    unfold Oper.wp
    generalize (execOp a.eval o).run P w = r at *
    cases r with
    | ok n w' =>
      cases n with
      | value u =>
        obtain ⟨rfl, he⟩ := h1
        exact h _ he
      | enter f args =>
        refine Calls.mono h1 fun e w'' he => ?_
        obtain ⟨rfl, hx⟩ := he
        exact h _ hx
      | _ => exact h1.elim
    | halt x w' => exact h1.elim
  · simp only [hw, Bool.false_eq_true, if_false]
    exact h _ (Ext.refl _)

/-- The state is as a's in all that o looks at. -/
def Alike (ops : Array Oper) (o : Oper) (a a' : Act) : Prop := execOp a'.eval o = execOp a.eval o ∧ Region.wanted o (yielded ops a'.tmps) = Region.wanted o (yielded ops a.tmps)

/-- An operation oj that is apart from oi does, without oi's value, what it does with it. -/
theorem wpOp_swap {j : Nat} {oi oj : Oper} {v : Value} (hj : ops[j]? = some oj) (hap : oi.apart ops oj = true)
    (hsi : ∀ cs b, oi.op ≠ .select cs b) (hsj : ∀ cs b, oj.op ≠ .select cs b)
    (hQ : ∀ c a w, Q (.panic c) (a.put oi.dst v) w → Q (.panic c) a w) {K : Act → World → Prop} {a : Act} {w : World}
    (h : wpOp P ops Q j K (a.put oi.dst v) w) :
    wpOp P ops Q j (fun a' w' => Alike ops oi a a' ∧ K (a'.put oi.dst v) w') a w := by
  obtain ⟨h1, h2, h3⟩ := Oper.apart_spec hap
  have keep : ∀ (b : Act), Alike ops oi a b → ∀ u, Alike ops oi a (b.put oj.dst u) := fun b hb u =>
    ⟨(execOp_put oi hsi b oj.dst u h3).trans hb.1, (wanted_put oi b oj.dst u h3).trans hb.2⟩
  have k0 : Alike ops oi a a := ⟨rfl, rfl⟩
  have kD : ∀ d, Alike ops oi a { a with defers := d :: a.defers } := fun d => ⟨rfl, rfl⟩
  unfold wpOp at *
  simp only [hj] at *
  rw [wanted_put oj a oi.dst v h1] at h
  split
  · rename_i hw
    simp only [hw, if_true] at h
    rcases h with h | ⟨hasks, hlets⟩
    case inr => exact .inr ⟨by unfold Oper.asks at *; rw [execOp_put oj hsj a oi.dst v h1] at hasks; exact hasks, hlets⟩
    refine .inl ?_
    unfold Oper.wp at *
    rw [execOp_put oj hsj a oi.dst v h1] at h
    generalize (execOp a.eval oj).run P w = r at *
    cases r with
    | ok n w' =>
      cases n <;> simp only [Oper.upon] at h ⊢
      case value u => exact ⟨keep a k0 u, by rw [← Act.put_comm a v u h2]; exact h⟩
      case skip => exact ⟨keep a k0 _, by rw [← Act.put_comm a v undef h2]; exact h⟩
      case defer d =>
        refine ⟨keep _ (kD d) _, ?_⟩
        rw [← Act.put_comm _ v undef h2, ← Act.put_defers]
        exact h
      case enter f args =>
        refine Calls.mono h fun e w'' he => ?_
        cases e with
        | returned u => exact ⟨keep a k0 u, by rw [← Act.put_comm a v u h2]; exact he⟩
        | panicked c => exact hQ _ _ _ he
        | outgrown => exact he
      case row row args => exact Rows.mono h fun u w'' he => ⟨keep a k0 u, by rw [← Act.put_comm a v u h2]; exact he⟩
    | halt x w' =>
      cases x <;> simp only [Oper.upon] at h ⊢
      case panic u => exact hQ _ _ _ h
  · rename_i hw
    simp only [hw] at h
    exact ⟨keep a k0 _, by rw [← Act.put_comm a v undef h2]; exact h⟩

/-- Whatever order is picked from here on, in this world or in one that it has grown to; behind every operation the world has only grown. -/
def wpK (P : Program) (md : Region.Mode) (ops : Array Oper) (Q : Exit → Act → World → Prop) : Nat → Array Bool → Act → World → Prop
  | 0, listed, a, w => Region.ready md ops listed = [] ∧ ∀ w', Ext w w' → Q .normal a w'
  | fuel + 1, listed, a, w =>
    (Region.ready md ops listed = [] → ∀ w', Ext w w' → Q .normal a w') ∧
    ∀ w', Ext w w' → ∀ i ∈ Region.ready md ops listed, wpOp P ops Q i (fun a' w'' => Ext w' w'' ∧ wpK P md ops Q fuel (listed.setIfInBounds i true) a' w'') a w'

theorem wpK.up : ∀ {fuel : Nat} {listed : Array Bool} {a : Act} {w w' : World}, wpK P md ops Q fuel listed a w → Ext w w' → wpK P md ops Q fuel listed a w'
  | 0, _, _, _, _, h, hw => ⟨h.1, fun w'' h' => h.2 w'' (hw.trans h')⟩
  | _ + 1, _, _, _, _, h, hw => ⟨fun h0 w'' h' => h.1 h0 w'' (hw.trans h'), fun w'' h' => h.2 w'' (hw.trans h')⟩

end
end Go.Proofs.Ytkhklhipiiehbaa

/- A region that draws its order, whose operations read, or call what answers the same in every later world; and calls that turn memory, where nothing else is ready beside them: it may be walked in one order. -/
namespace Go.Proofs.Ytkhklhipiiehbaa
open Go.RowKit

theorem Kept.of_ext {S : Nat → Prop} {w w' : World} (h : Ext w w') : Kept S w w' := Kept.of_below h

section
variable {P : Program} {ops : Array Oper} {Q : Exit → Act → World → Prop} {md : Region.Mode} {S : Nat → Prop}

/-- In state a, in w and in every world that w may come to within the region, operation o yields v and only makes new memory. -/
def YieldsR (P : Program) (ops : Array Oper) (S : Nat → Prop) (o : Oper) (v : Value) (a : Act) (w : World) : Prop :=
  (Region.wanted o (yielded ops a.tmps) = true ∧ ∀ w', Kept S w w' → Outcome P v w' ((execOp a.eval o).run P w')) ∨
  (Region.wanted o (yielded ops a.tmps) = false ∧ v = undef)

theorem YieldsR.up {o : Oper} {v : Value} {a : Act} {w w' : World} (h : YieldsR P ops S o v a w) (hw : Kept S w w') : YieldsR P ops S o v a w' :=
  match h with
  | .inl ⟨h1, h2⟩ => .inl ⟨h1, fun w'' h' => h2 w'' (hw.trans h')⟩
  | .inr h2 => .inr h2

theorem YieldsR.same {o : Oper} {v : Value} {a a' : Act} {w : World} (hy : YieldsR P ops S o v a w) (he : execOp a'.eval o = execOp a.eval o)
    (hw : Region.wanted o (yielded ops a'.tmps) = Region.wanted o (yielded ops a.tmps)) : YieldsR P ops S o v a' w := by
  unfold YieldsR at *
  rw [he, hw]
  exact hy

theorem YieldsR.wpOp {i : Nat} {o : Oper} {v : Value} {a : Act} {w : World} (hi : ops[i]? = some o) (hy : YieldsR P ops S o v a w)
    {K : Act → World → Prop} (h : ∀ w', Ext w w' → K (a.put o.dst v) w') : wpOp P ops Q i K a w := by
  unfold Go.wpOp
  simp only [hi]
  rcases hy with ⟨hw, hv⟩ | ⟨hw, rfl⟩
  · simp only [hw, if_true]
    refine .inl ?_
    have h1 := hv w (Kept.refl _ w)
    unfold Oper.wp
    generalize (execOp a.eval o).run P w = r at *
    cases r with
    | ok n w' =>
      cases n with
      | value u =>
        obtain ⟨rfl, he⟩ := h1
        exact h _ he
      | enter f args =>
        refine Calls.mono h1 fun e w'' he => ?_
        obtain ⟨rfl, hx⟩ := he
        exact h _ hx
      | _ => exact h1.elim
    | halt x w' => exact h1.elim
  · simp only [hw, Bool.false_eq_true, if_false]
    exact h _ (Ext.refl _)

/-- Whatever order is picked from here on, in this world or in one that it has grown to; behind every operation only what S lets has turned. -/
def wpR (P : Program) (md : Region.Mode) (ops : Array Oper) (S : Nat → Prop) (Q : Exit → Act → World → Prop) : Nat → Array Bool → Act → World → Prop
  | 0, listed, a, w => Region.ready md ops listed = [] ∧ ∀ w', Ext w w' → Q .normal a w'
  | fuel + 1, listed, a, w =>
    (Region.ready md ops listed = [] → ∀ w', Ext w w' → Q .normal a w') ∧
    ∀ w', Ext w w' → ∀ i ∈ Region.ready md ops listed, wpOp P ops Q i (fun a' w'' => Kept S w' w'' ∧ wpR P md ops S Q fuel (listed.setIfInBounds i true) a' w'') a w'

theorem wpR.up : ∀ {fuel : Nat} {listed : Array Bool} {a : Act} {w w' : World}, wpR P md ops S Q fuel listed a w → Ext w w' → wpR P md ops S Q fuel listed a w'
  | 0, _, _, _, _, h, hw => ⟨h.1, fun w'' h' => h.2 w'' (hw.trans h')⟩
  | _ + 1, _, _, _, _, h, hw => ⟨fun h0 w'' h' => h.1 h0 w'' (hw.trans h'), fun w'' h' => h.2 w'' (hw.trans h')⟩

theorem wpAny_of_R : ∀ (fuel : Nat) (listed : Array Bool) (a : Act) (w : World), wpR P md ops S Q fuel listed a w → wpAny P md ops Q fuel listed a w
  | 0, _, _, w, h => ⟨h.1, h.2 w (Ext.refl w)⟩
  | fuel + 1, _, _, w, h => ⟨fun h0 => h.1 h0 w (Ext.refl w), fun i hi => wpOp_mono (fun a' w' h' => wpAny_of_R fuel _ a' w' h'.2) (h.2 w (Ext.refl w) i hi)⟩

theorem wpR_first {i : Nat} {oi : Oper} {v : Value} (hi : ops[i]? = some oi) (hsel : ∀ (j : Nat) (o : Oper) cs b, ops[j]? = some o → o.op ≠ .select cs b)
    (hQ : ∀ c a w, Q (.panic c) (a.put oi.dst v) w → Q (.panic c) a w) :
    ∀ (fuel : Nat) (listed : Array Bool) (a : Act) (w : World),
      (∀ j oj, ops[j]? = some oj → j ≠ i → listed.getD j true = false → (∀ e ∈ oj.after, Region.binds md e = true → e.on ≠ i) → oi.apart ops oj = true) →
      i ∈ Region.ready md ops listed → YieldsR P ops S oi v a w →
      wpR P md ops S Q fuel (listed.setIfInBounds i true) (a.put oi.dst v) w → wpR P md ops S Q (fuel + 1) listed a w := by
  intro fuel
  induction fuel with
  | zero =>
    intro listed a w _ hr hy H
    refine ⟨fun h => (by rw [h] at hr; cases hr), fun w1 hw1 j hj => ?_⟩
    by_cases hji : j = i
    · subst hji
      exact (hy.up (Kept.of_ext hw1)).wpOp hi fun w2 hw2 => ⟨Kept.of_ext hw2, H.up (hw1.trans hw2)⟩
    · have := ready_mono hj hji
      rw [H.1] at this
      cases this
  | succ fuel ih =>
    intro listed a w hfree hr hy H
    refine ⟨fun h => (by rw [h] at hr; cases hr), fun w1 hw1 j hj => ?_⟩
    by_cases hji : j = i
    · subst hji
      exact (hy.up (Kept.of_ext hw1)).wpOp hi fun w2 hw2 => ⟨Kept.of_ext hw2, H.up (hw1.trans hw2)⟩
    · have h1 := H.2 w1 hw1 j (ready_mono hj hji)
      obtain ⟨hjun, oj, hoj, hall⟩ := mem_ready.1 hj
      have hnot : ∀ e ∈ oj.after, Region.binds md e = true → e.on ≠ i := fun e he hb heq => by
        have h1 := hall e he hb
        have h0 := (mem_ready.1 hr).1
        rw [heq] at h1
        rcases Nat.lt_or_ge i listed.size with h' | h'
        · simp [h'] at h0 h1
          rw [h0] at h1
          cases h1
        · simp [Array.getElem?_eq_none h'] at h1
      have h2 := wpOp_swap hoj (hfree j oj hoj hji hjun hnot) (fun cs b => hsel i oi cs b hi) (fun cs b => hsel j oj cs b hoj) hQ h1
      have hfree' : ∀ k ok, ops[k]? = some ok → k ≠ i → (listed.setIfInBounds j true).getD k true = false →
          (∀ e ∈ ok.after, Region.binds md e = true → e.on ≠ i) → oi.apart ops ok = true := fun k ok hk hki hun hno => by
        refine hfree k ok hk hki ?_ hno
        by_cases hjk : j = k
        · subst hjk
          exact hjun
        · rw [getD_set_ne true hjk] at hun
          exact hun
      refine wpOp_mono (fun a' w' h3 => ⟨h3.2.1, ih (listed.setIfInBounds j true) a' w' hfree' (ready_mono hr (Ne.symm hji)) ?_ ?_⟩) h2
      · exact (hy.up ((Kept.of_ext hw1).trans h3.2.1)).same h3.1.1 h3.1.2
      · rw [Array.setIfInBounds_comm _ _ hji]
        exact h3.2.2

/-- Take operation number i next, whose value is the same in every later world: 'apply Exists.intro; apply And.intro' behind it. -/
theorem wpR_next (i : Nat) (d : Option Tmp) {oi : Oper} {fuel : Nat} {listed : Array Bool} {a : Act} {w : World} (hi : ops[i]? = some oi) (hd : oi.dst = d)
    (hs : Region.noSelect ops = true) (hf : Region.free md ops listed i = true) (hr : (Region.ready md ops listed).contains i = true)
    (hQ : ∀ v c a w, Q (.panic c) (a.put d v) w → Q (.panic c) a w)
    (h : ∃ v, YieldsR P ops S oi v a w ∧ wpR P md ops S Q fuel (listed.setIfInBounds i true) (a.put d v) w) : wpR P md ops S Q (fuel + 1) listed a w := by
  subst hd
  obtain ⟨v, hy, hk⟩ := h
  exact wpR_first hi (Region.noSelect_spec hs) (hQ v) fuel listed a w (Region.free_spec hi hf) (by simpa using hr) hy hk

theorem wpR_done {listed : Array Bool} {a : Act} {w : World} (hr : Region.ready md ops listed = []) (h : ∀ w', Ext w w' → Q .normal a w') : ∀ fuel, wpR P md ops S Q fuel listed a w
  | 0 => ⟨hr, h⟩
  | _ + 1 => ⟨fun _ => h, by rw [hr]; simp⟩

/-- The beginning. -/
theorem wp_region_reg (S : Nat → Prop) {id : Nat} {a : Act} {w : World} (hm : P.follows .mixedOrders = true)
    (h : wpR P .any ops S Q ops.size (Array.replicate ops.size false) a w.drew) : (Code.region id ops true).wp P Q a w :=
  wp_region_any hm (wpAny_of_R _ _ _ _ h)

/-- An operation that is not wanted. -/
theorem yr_skip {o : Oper} {a : Act} {w : World} (h : Region.wanted o (yielded ops a.tmps) = false) : YieldsR P ops S o undef a w := .inr ⟨h, rfl⟩
/-- An operation that reads. -/
theorem yr_run {o : Oper} {v : Value} {a : Act} {w : World} (h : Region.wanted o (yielded ops a.tmps) = true) (hr : ∀ w', Kept S w w' → (execOp a.eval o).run P w' = .ok (.value v) w') : YieldsR P ops S o v a w :=
  .inl ⟨h, fun w' hw => by rw [hr w' hw]; exact ⟨rfl, Ext.refl _⟩⟩
/-- A call. -/
theorem yr_call {o : Oper} {v : Value} {a : Act} {w : World} {f : FuncId} {args : Array Value} (h : Region.wanted o (yielded ops a.tmps) = true)
    (hr : ∀ w', (execOp a.eval o).run P w' = .ok (.enter f args) w') (hc : ∀ w', Kept S w w' → Calls P f args w' fun e w'' => e = .returned v ∧ Below w'.heap.size w' w'') : YieldsR P ops S o v a w :=
  .inl ⟨h, fun w' hw => by rw [hr w']; exact hc w' hw⟩
end
end Go.Proofs.Ytkhklhipiiehbaa

/- A drawn region with stores. -/
namespace Go.Proofs.Ytkhklhipiiehbaa
open Go.RowKit

section
variable {P : Program} {md : Region.Mode} {ops : Array Oper} {S : Nat → Prop} {Q : Exit → Act → World → Prop}
end
end Go.Proofs.Ytkhklhipiiehbaa

/- In a drawn region: the load of a whole block. -/
namespace Go.Proofs.Ytkhklhipiiehbaa
open Go.RowKit

def Nil_ (_ : Nat) : Prop := False
theorem Kept.nil_cell {w w' : World} (h : Kept Nil_ w w') {p : Addr} {v : Value} (hc : w.cell? p = some v) : w'.cell? p = some v := h.cell hc (fun e => e)

theorem load_row_run {P : Program} {ev : Operand → Value} {o : Oper} {w : World} (ty : TypeId) (x : Operand) (ho : o.op = .load ty x)
    (g : Nat) (hx : ev x = .pointer (some ⟨g, 0, none⟩)) (t : TypeId) (cs : List Value) (d : TypeDesc) (hg : Whole w g t cs)
    (hu : P.underlying ty = some d) (hd : (match d with | .struct _ | .array _ _ => true | _ => false) = true) (hi : (P.info? ty).map (·.size) = some cs.length) :
    (execOp ev o).run P w = .ok (.value (.agg cs.toArray)) w := by
  have h1 : (Instr.loadAt ty (ev x)).run P w = .ok (.agg cs.toArray) w := by
    rw [hx]
    simp only [Instr.loadAt, Instr.sureAddr, Sem.run_bind, Sem.run_pure, Result.andThen]
    exact run_loadVar_row w g t ty cs.toArray (0, 0) d hg hu hd (by simpa using hi)
  unfold execOp
  simp only [ho, Sem.run_bind, Sem.run_pure, Result.andThen_ok, h1]

theorem exec_binop_agg {P : Program} {ev : Operand → Value} {o : Oper} {w : World} (op : BinOp) (t : TypeId) (x y : Operand) (t' : TypeId) (ho : o.op = .binOp op t x y t') {xs ys : Array Value} {v : Value}
    (hx : ev x = .agg xs) (hy : ev y = .agg ys) (hm : P.eqGuardType P.depth t = false) (hb : (binOp op t (.agg xs) (.agg ys)).run P w = .ok v w) : (execOp ev o).run P w = .ok (.value v) w := by
  unfold execOp
  simp only [ho, Sem.run_bind, Sem.run_pure, Result.andThen_ok, hx, hy, run_eqGuard_agg (w := w) op t x y xs ys hm, hb]

section
variable {P : Program} {ops : Array Oper} {S : Nat → Prop}
theorem yr_load {o : Oper} {a : Act} {w : World} (h : Region.wanted o (yielded ops a.tmps) = true) (ty : TypeId) (x : Operand) (ho : o.op = .load ty x)
    (g : Nat) (hx : a.eval x = .pointer (some ⟨g, 0, none⟩)) (t : TypeId) (cs : List Value) (d : TypeDesc) (hg : ∀ w', Kept S w w' → Whole w' g t cs)
    (hu : P.underlying ty = some d) (hd : (match d with | .struct _ | .array _ _ => true | _ => false) = true) (hi : (P.info? ty).map (·.size) = some cs.length) :
    YieldsR P ops S o (.agg cs.toArray) a w :=
  yr_run h fun w' hw => load_row_run ty x ho g hx t cs d (hg w' hw) hu hd hi
end

/-! A region that does not draw, operation by operation. -/
section
variable {P : Program} {ops : Array Oper} {rest : List Oper} {o : Oper} {a : Act} {w : World} {Q : Exit → Act → World → Prop}
theorem wl_run (d : Option Tmp) (hd : o.dst = d) (hw : Region.wanted o (yielded ops a.tmps) = true) {v : Value} {w' : World} (hrun : (execOp a.eval o).run P w = .ok (.value v) w')
    (h : wpList P ops Q rest (a.put d v) w') : wpList P ops Q (o :: rest) a w := by
  subst hd
  refine wpList_step fun K hK => ?_
  rw [if_pos hw]
  unfold Oper.wp
  rw [hrun, Oper.upon_value]
  exact hK _ _ h
theorem wl_read (d : Option Tmp) (hd : o.dst = d) (hw : Region.wanted o (yielded ops a.tmps) = true) {v : Value} (hrun : (execOp a.eval o).run P w = .ok (.value v) w)
    (h : wpList P ops Q rest (a.put d v) w) : wpList P ops Q (o :: rest) a w := wl_run d hd hw hrun h
theorem wl_load (d : Option Tmp) (hd : o.dst = d) (hw : Region.wanted o (yielded ops a.tmps) = true) (ty : TypeId) (x : Operand) (ho : o.op = .load ty x)
    (g : Nat) (hx : a.eval x = .pointer (some ⟨g, 0, none⟩)) (t : TypeId) (cs : List Value) (td : TypeDesc) (hg : Whole w g t cs)
    (hu : P.underlying ty = some td) (hs : (match td with | .struct _ | .array _ _ => true | _ => false) = true) (hi : (P.info? ty).map (·.size) = some cs.length)
    (h : wpList P ops Q rest (a.put d (.agg cs.toArray)) w) : wpList P ops Q (o :: rest) a w := wl_read d hd hw (load_row_run ty x ho g hx t cs td hg hu hs hi) h
end
end Go.Proofs.Ytkhklhipiiehbaa

/- Words for a chain of calls that only make new memory. -/
namespace Go.Proofs.Ytkhklhipiiehbaa
open Go.RowKit

theorem bel_al {w0 w : World} (h : Below w0.heap.size w0 w) (o : Obj) : Below w0.heap.size w0 (w.alloc o) := h.alloc h.size o
theorem bel_bl {w0 w w' : World} (h : Below w0.heap.size w0 w) (hb : Below w.heap.size w w') : Below w0.heap.size w0 w' := h.trans (hb.mono h.size)
theorem bel_dr {w0 w : World} (h : Below w0.heap.size w0 w) : Below w0.heap.size w0 w.drew := h.drew
theorem RdS.al {w : World} {size n c : Nat} {A : Option Addr} {xs : List Value} (h : RdS w w.heap.size size A n c xs) (o : Obj) : RdS (w.alloc o) (w.alloc o).heap.size size A n c xs :=
  h.up ((Below.refl _ _).alloc (Nat.le_refl _) o) (by simp)
theorem RdS.bl {w w' : World} {size n c : Nat} {A : Option Addr} {xs : List Value} (h : RdS w w.heap.size size A n c xs) (hb : Below w.heap.size w w') : RdS w' w'.heap.size size A n c xs := h.up hb hb.size
theorem RdS.dr {w : World} {size n c : Nat} {A : Option Addr} {xs : List Value} (h : RdS w w.heap.size size A n c xs) : RdS w.drew w.drew.heap.size size A n c xs := h.up ((Below.refl _ _).drew) (Nat.le_refl _)
theorem Whole.al {w : World} {g : Nat} {t : TypeId} {cs : List Value} (h : Whole w g t cs) (o : Obj) : Whole (w.alloc o) g t cs := h.alloc o
theorem Whole.bl {w w' : World} {g : Nat} {t : TypeId} {cs : List Value} (h : Whole w g t cs) (hb : Below w.heap.size w w') : Whole w' g t cs := h.below hb
theorem Whole.dr {w : World} {g : Nat} {t : TypeId} {cs : List Value} (h : Whole w g t cs) : Whole w.drew g t cs := h.drew
end Go.Proofs.Ytkhklhipiiehbaa

/- Rows of structs in memory: a list of elements, each some cells; an element taken out of a row; a new variable of the call's own. -/
namespace Go.Proofs.Ytkhklhipiiehbaa
open Go.RowKit

section
variable {α : Type} (f : α → List Value)
def rowsV : List α → List Value
  | [] => []
  | x :: l => f x ++ rowsV l
theorem rowsV_length {s : Nat} (hs : ∀ x, (f x).length = s) (l : List α) : (rowsV f l).length = l.length * s := by
  induction l with
  | nil => simp [rowsV]
  | cons x l ih => simp [rowsV, ih, hs, Nat.succ_mul]; omega
theorem rowsV_app (l m : List α) : rowsV f (l ++ m) = rowsV f l ++ rowsV f m := by
  induction l with
  | nil => rfl
  | cons x l ih => simp [rowsV, ih]
theorem rowsV_get {s : Nat} (hs : ∀ x, (f x).length = s) (l : List α) (k : Nat) (x : α) (hk : l[k]? = some x) (j : Nat) (v : Value) (hv : (f x)[j]? = some v) : (rowsV f l)[k * s + j]? = some v := by
  induction l generalizing k with
  | nil => simp at hk
  | cons y l ih =>
    have hj : j < s := by
      rw [← hs x]
      rcases Nat.lt_or_ge j (f x).length with h | h
      · exact h
      · rw [List.getElem?_eq_none h] at hv; cases hv
    cases k with
    | zero =>
      simp at hk
      subst hk
      simp only [rowsV, Nat.zero_mul, Nat.zero_add]
      rw [List.getElem?_append_left (by rw [hs]; exact hj)]
      exact hv
    | succ k =>
      simp only [rowsV]
      rw [List.getElem?_append_right (by rw [hs, Nat.succ_mul]; omega), hs, show (k + 1) * s + j - s = k * s + j by rw [Nat.succ_mul]; omega]
      exact ih k (by simpa using hk)
theorem rowsV_take {s : Nat} (hs : ∀ x, (f x).length = s) (l : List α) (k : Nat) : rowsV f (l.take k) = (rowsV f l).take (k * s) := by
  induction l generalizing k with
  | nil => simp [rowsV]
  | cons x l ih =>
    cases k with
    | zero => simp [rowsV]
    | succ k =>
      simp only [List.take_succ_cons, rowsV, ih, Nat.succ_mul]
      rw [List.take_append, hs, List.take_of_length_le (l := f x) (by rw [hs]; omega), show k * s + s - s = k * s by omega]
theorem rowsV_drop {s : Nat} (hs : ∀ x, (f x).length = s) (l : List α) (k : Nat) : rowsV f (l.drop k) = (rowsV f l).drop (k * s) := by
  induction l generalizing k with
  | nil => simp [rowsV]
  | cons x l ih =>
    cases k with
    | zero => simp [rowsV]
    | succ k =>
      simp only [List.drop_succ_cons, rowsV, ih, Nat.succ_mul]
      rw [List.drop_append, hs, List.drop_of_length_le (l := f x) (by rw [hs]; omega), show k * s + s - s = k * s by omega]
      simp
theorem rowsV_one (h : ∀ x, ∀ u ∈ f x, u.oneCell' = true) (l : List α) : ∀ u ∈ rowsV f l, u.oneCell' = true := by
  induction l with
  | nil => simp [rowsV]
  | cons x l ih =>
    intro u hu
    rcases List.mem_append.1 hu with hu | hu
    · exact h x u hu
    · exact ih u hu
end

section
variable {w : World} {B n c s : Nat} {A : Option Addr} {α : Type} {f : α → List Value} {L : List α}
theorem RdS.rlen (hs : ∀ x, (f x).length = s) (h0 : 0 < s) (h : RdS w B s A n c (rowsV f L)) : L.length = n := by
  have := h.len
  rw [rowsV_length f hs] at this
  exact Nat.eq_of_mul_eq_mul_right h0 this
/-- Where the elements of a row lie. -/
theorem RdS.place (hs : ∀ x, (f x).length = s) (h0 : 0 < s) (h : RdS w B s A n c (rowsV f L)) (hn : 0 < n) :
    ∃ b off, A = some ⟨b, off, none⟩ ∧ b < B ∧ ∀ k x, L[k]? = some x → ∀ j v, (f x)[j]? = some v → w.cell? (Addr.add ⟨b, off + k * s, none⟩ j) = some v := by
  have hl := h.rlen hs h0
  cases A with
  | none => exact absurd (h.none_ rfl).1 (by omega)
  | some a =>
    have ha : ∃ b off, a = ⟨b, off, none⟩ := by
      obtain ⟨b, off, g⟩ := a
      cases g with
      | none => exact ⟨b, off, rfl⟩
      | some g =>
        have hx : L[0]? = some (L[0]'(by omega)) := List.getElem?_eq_getElem (by omega)
        obtain ⟨v, hv⟩ : ∃ v, (f (L[0]'(by omega)))[0]? = some v := ⟨_, List.getElem?_eq_getElem (by rw [hs (L[0]'(by omega))]; exact h0)⟩
        have h1 := h.cell _ rfl _ _ (rowsV_get f hs L 0 _ hx 0 v hv)
        simp [Addr.add, World.cell?] at h1
        split at h1 <;> cases h1
    obtain ⟨b, off, rfl⟩ := ha
    refine ⟨b, off, rfl, h.low _ rfl hn, fun k x hk j v hv => ?_⟩
    have := h.cell _ rfl _ _ (rowsV_get f hs L k x hk j v hv)
    have e : (⟨b, off, none⟩ : Addr).add (k * s + j) = (⟨b, off + k * s, none⟩ : Addr).add j := by
      simp only [Addr.add_lit, Nat.add_assoc]
    rw [← e]
    exact this
end

theorem run_loadAt_at {P : Program} (w : World) (ty : TypeId) (ad : Addr) (cs : List Value) (d : TypeDesc) (hc : ∀ j v, cs[j]? = some v → w.cell? (ad.add j) = some v)
    (hu : P.underlying ty = some d) (hd : (match d with | .struct _ | .array _ _ => true | _ => false) = true) (hi : (P.info? ty).map (·.size) = some cs.length) :
    (Instr.loadAt ty (.pointer (some ad))).run P w = .ok (.agg cs.toArray) w := by
  have hl : (loadCells ad cs.length).run P w = .ok cs.toArray w := run_loadCells_list (P := P) w ad cs hc
  cases hq : P.info? ty with
  | none => simp [hq] at hi
  | some i =>
    have hs : i.size = cs.length := by simpa [hq] using hi
    have hagg : (isAgg ty).run P w = .ok true w := by
      unfold isAgg
      rw [Sem.run_bind, run_underlying hu w]
      cases d <;> simp_all
    simp [Instr.loadAt, Instr.sureAddr, loadVar, Sem.run_bind, hagg, sizeOf, typeInfo, hq, hs, hl]

theorem load_at_run {P : Program} {ev : Operand → Value} {o : Oper} {w : World} (ty : TypeId) (x : Operand) (ho : o.op = .load ty x) (ad : Addr) (hx : ev x = .pointer (some ad)) (cs : List Value) (d : TypeDesc)
    (hc : ∀ j v, cs[j]? = some v → w.cell? (ad.add j) = some v)
    (hu : P.underlying ty = some d) (hd : (match d with | .struct _ | .array _ _ => true | _ => false) = true) (hi : (P.info? ty).map (·.size) = some cs.length) :
    (execOp ev o).run P w = .ok (.value (.agg cs.toArray)) w := by
  unfold execOp
  simp only [ho, hx, Sem.run_bind, Sem.run_pure, Result.andThen_ok, run_loadAt_at w ty ad cs d hc hu hd hi]

theorem exec_buildSlice {P : Program} {ev : Operand → Value} {o : Oper} {w : World} (t e : TypeId) (len : Nat) (parts : Array (Nat × Operand)) (ho : o.op = .buildSlice t len parts) (hu : P.underlying t = some (.slice e)) (cells : Array Value)
    (hf : P.builtSlice e len (parts.map fun (i, x) => (i, ev x)).toList = some cells) : (execOp ev o).run P w = .ok (.value (.slice (some ⟨w.heap.size, 0, none⟩) len len)) (w.alloc (.cells cells e)) := by
  have hb : (Instr.buildSlice t len (parts.map fun (i, x) => (i, ev x))).run P w = .ok (.slice (some ⟨w.heap.size, 0, none⟩) len len) (w.alloc (.cells cells e)) := by
    unfold Program.builtSlice at hf
    cases hie : P.info? e with
    | none => simp [hie] at hf
    | some ie =>
      simp only [hie] at hf
      cases hz : ie.zero with
      | none => simp [hz] at hf
      | some z =>
        simp only [hz] at hf
        by_cases hc : len * ie.size > 2 ^ 24 ∨ len * ie.size = 0
        · simp [hc] at hf
        · rw [if_neg hc] at hf
          exact run_buildSlice w t e len _ cells ie z hu hie hz (fun h' => hc (Or.inl h')) (fun h' => hc (Or.inr h')) hf
  unfold execOp
  simp only [ho, Sem.run_bind, Sem.run_pure, Result.andThen_ok, hb]

theorem RdS.take_ {w : World} {B size n c : Nat} {A : Option Addr} {xs : List Value} (h : RdS w B size A n c xs) (k : Nat) (hk : k ≤ n) : RdS w B size A k c (xs.take (k * size)) := by
  have hlen := h.len
  have hm : k * size ≤ n * size := Nat.mul_le_mul_right _ hk
  refine ⟨by rw [List.length_take]; omega, fun e => ?_, Nat.le_trans hk h.le, fun a ha h0 => h.low a ha (by omega), fun a ha j u hu => ?_⟩
  · have := h.none_ e
    omega
  · rw [List.getElem?_take] at hu
    split at hu
    · exact h.cell a ha j u hu
    · cases hu

section
variable {P : Program} {ops : Array Oper} {rest : List Oper} {o o' : Oper} {a : Act} {w : World} {Q : Exit → Act → World → Prop} {S : Nat → Prop}
/-- A struct taken out of where it lies. -/
theorem wl_load_at (d : Option Tmp) (hd : o.dst = d) (hw : Region.wanted o (yielded ops a.tmps) = true) (ty : TypeId) (x : Operand) (ho : o.op = .load ty x) (ad : Addr) (hx : a.eval x = .pointer (some ad)) (cs : List Value) (td : TypeDesc)
    (hc : ∀ j v, cs[j]? = some v → w.cell? (ad.add j) = some v)
    (hu : P.underlying ty = some td) (hs : (match td with | .struct _ | .array _ _ => true | _ => false) = true) (hi : (P.info? ty).map (·.size) = some cs.length)
    (h : wpList P ops Q rest (a.put d (.agg cs.toArray)) w) : wpList P ops Q (o :: rest) a w := wl_read d hd hw (load_at_run ty x ho ad hx cs td hc hu hs hi) h
/-- A slice literal. -/
theorem wl_buildSlice (d : Option Tmp) (hd : o.dst = d) (hw : Region.wanted o (yielded ops a.tmps) = true) (t e : TypeId) (len : Nat) (parts : Array (Nat × Operand)) (ho : o.op = .buildSlice t len parts) (hu : P.underlying t = some (.slice e)) (cells : Array Value)
    (hf : P.builtSlice e len (parts.map fun (i, x) => (i, a.eval x)).toList = some cells)
    (h : wpList P ops Q rest (a.put d (.slice (some ⟨w.heap.size, 0, none⟩) len len)) (w.alloc (.cells cells e))) : wpList P ops Q (o :: rest) a w :=
  wl_run d hd hw (exec_buildSlice t e len parts ho hu cells hf) h
/-- A new variable, and what is stored into it at once. -/
theorem wl_new (p : Tmp) (hd : o.dst = some p) (hg : o.guard = none) (hg' : o'.guard = none) (ty : TypeId) (y : Operand) (ho' : o'.op = .store ty (.tmp p) y) (hd' : o'.dst = none) (zc : Array Value)
    (hal : (execOp a.eval o).run P w = .ok (.value (.pointer (some ⟨w.heap.size, 0, none⟩))) (w.alloc (.cells zc ty)))
    (cs : Array Value) (hp : p < a.tmps.size) (hy : (a.put (some p) (.pointer (some ⟨w.heap.size, 0, none⟩))).eval y = .agg cs)
    (hi : (P.info? ty).map (·.size) = some cs.size) (hsz : zc.size = cs.size) (h1 : cs.all (·.oneCell') = true)
    (h : wpList P ops Q rest (a.put (some p) (.pointer (some ⟨w.heap.size, 0, none⟩))) (w.alloc (.cells cs ty))) : wpList P ops Q (o :: o' :: rest) a w := by
  refine Great.wpList_allocTo hg (some p) hd _ (.cells zc ty) hal ?_
  refine wpList_store_row hg' ty (.tmp p) y ho' w.heap.size cs ?_ hy ty zc (heap_alloc_last _ _) hi hsz h1 ?_
  · simp [Act.put, Act.eval, Array.getD, hp]
  · rw [World.setRow_alloc_new, hd']
    exact h
end
end Go.Proofs.Ytkhklhipiiehbaa

/- A row of the call's own that grows: what stands of it, and an append onto it. -/
namespace Go.Proofs.Ytkhklhipiiehbaa
open Go.RowKit

/-- v is a row of n elements of type e, of the call's own from block B on; nothing that was there in w has turned. -/
structure Ow (w : World) (B : Nat) (e : TypeId) (size : Nat) (v : Value) (n : Nat) (xs : List Value) (W : World) : Prop where
  own : W.ownsRow B e size v n xs
  below : Below w.heap.size w W
  lo : w.heap.size ≤ B
  hi : B ≤ W.heap.size

section
variable {w W W' : World} {B size n : Nat} {e : TypeId} {v : Value} {xs : List Value}
theorem own_up {x y : World} {B n : Nat} {e : TypeId} {size : Nat} {v : Value} {xs : List Value} (h : x.ownsRow B e size v n xs) (hx : Below x.heap.size x y) : y.ownsRow B e size v n xs :=
  h.kept (row := none) ⟨hx.os, hx.tape, hx.output, hx.size, fun i hi _ => hx.block i hi⟩ (by cases hv : v.ownBlock <;> simp)
theorem Ow.up (h : Ow w B e size v n xs W) (hb : Below W.heap.size W W') : Ow w B e size v n xs W' :=
  ⟨own_up h.own hb, h.below.trans (hb.mono h.below.size), h.lo, Nat.le_trans h.hi hb.size⟩
theorem Ow.rds (h : Ow w B e size v n xs W) : ∃ A c, v = .slice A n c ∧ RdS W W.heap.size size A n c xs := RdS.of_own h.own
theorem Ow.new_ {W : World} {cs : Array Value} (hw : Below w.heap.size w W) (hl : w.heap.size ≤ B) (hh : B ≤ W.heap.size) (hn : n ≤ maxLen) (hs : cs.size = n * size) : Ow w B e size (.slice (some ⟨W.heap.size, 0, none⟩) n n) n cs.toList (W.alloc (.cells cs e)) :=
  ⟨own_new rfl hh hn hs rfl, hw.alloc hw.size _, hl, by simp; omega⟩
theorem Ow.nil_ {W : World} (hw : Below w.heap.size w W) (hl : w.heap.size ≤ B) (hh : B ≤ W.heap.size) : Ow w B e size (.slice none 0 0) 0 [] W :=
  ⟨World.ownsRow_nil W B e size, hw, hl, hh⟩
end

end Go.Proofs.Ytkhklhipiiehbaa

/- An append as an equation, onto a row of the call's own. -/
namespace Go.Proofs.Ytkhklhipiiehbaa
open Go.RowKit

end Go.Proofs.Ytkhklhipiiehbaa

/- A growing row that began as an empty one from before: told either way. -/
namespace Go.Proofs.Ytkhklhipiiehbaa
open Go.RowKit

/-- v is as yet the empty row at g0, or a row of the call's own. -/
def Gr (w : World) (g0 : Nat) (e : TypeId) (size : Nat) (v : Value) (n : Nat) (xs : List Value) (W : World) : Prop :=
  (n = 0 ∧ xs = [] ∧ v = .slice (some ⟨g0, 0, none⟩) 0 0 ∧ Below w.heap.size w W) ∨ Ow w w.heap.size e size v n xs W
theorem Gr.below {w W : World} {g0 size n : Nat} {e : TypeId} {v : Value} {xs : List Value} (h : Gr w g0 e size v n xs W) : Below w.heap.size w W := by
  rcases h with ⟨_, _, _, h⟩ | h
  · exact h
  · exact h.below
theorem Gr.up {w W W' : World} {g0 size n : Nat} {e : TypeId} {v : Value} {xs : List Value} (h : Gr w g0 e size v n xs W) (hb : Below W.heap.size W W') : Gr w g0 e size v n xs W' := by
  rcases h with ⟨h1, h2, h3, h⟩ | h
  · exact .inl ⟨h1, h2, h3, h.trans (hb.mono h.size)⟩
  · exact .inr (h.up hb)
theorem Gr.rds {w W : World} {g0 size n : Nat} {e : TypeId} {v : Value} {xs : List Value} (h : Gr w g0 e size v n xs W) : ∃ A c, v = .slice A n c ∧ RdS W W.heap.size size A n c xs := by
  rcases h with ⟨rfl, rfl, rfl, h⟩ | h
  · exact ⟨_, _, rfl, ⟨by simp, fun e => (by cases e), Nat.le_refl _, fun _ _ h => absurd h (by omega), fun _ _ j u hj => by simp at hj⟩⟩
  · exact h.rds
/-- A write to another block. -/
theorem RdS.far {w : World} {size n c : Nat} {A : Option Addr} {xs : List Value} (h : RdS w w.heap.size size A n c xs) {p : Addr} (hp : 0 < n → ∀ a, A = some a → a.block ≠ p.block) (u : Value) : RdS (w.setCell p u) (w.setCell p u).heap.size size A n c xs := by
  have hs : (w.setCell p u).heap.size = w.heap.size := by simp [World.setCell]
  refine ⟨h.len, h.none_, h.le, fun a e hn => by rw [hs]; exact h.low a e hn, fun a e j v hj => ?_⟩
  have hn : 0 < n := by
    rcases Nat.eq_zero_or_pos n with h0 | h0
    · subst h0
      have := h.len
      rw [Nat.zero_mul] at this
      rw [List.eq_nil_of_length_eq_zero this] at hj
      simp at hj
    · exact h0
  rw [← h.cell a e j v hj]
  refine World.cell?_of_block (Below.heap_setCell w p u _ ?_)
  rw [add_block]
  exact hp hn a e
end Go.Proofs.Ytkhklhipiiehbaa

/- An append onto a row of the call's own, and what it leaves of other blocks. -/
namespace Go.Proofs.Ytkhklhipiiehbaa
open Go.RowKit

theorem Whole.grown {W W' : World} {g : Nat} {t : TypeId} {cs : List Value} {r : Option Nat} (h : Whole W g t cs) (hg : W.grownBy W' r) (hne : some g ≠ r) : Whole W' g t cs :=
  h.at_ (hg.block g h.lt hne)
/-- A block that was made behind a row is not the row's. -/
theorem Ow.ne_ {w W : World} {B size n g : Nat} {e : TypeId} {v : Value} {xs : List Value} (h : Ow w B e size v n xs W) (hg : W.heap.size ≤ g) : some g ≠ v.ownBlock := fun e => by
  have := (h.own.lt g e.symm).2
  omega

theorem wpList_push2 {P : Program} {w W : World} {ops : Array Oper} {rest : List Oper} {o : Oper} {a : Act} {Q : Exit → Act → World → Prop} (hgd : o.guard = none) (s x : Operand) (t : TypeId)
    (ho : o.op = .call { callee := .builtin .append, args := #[s, x], argTypes := #[t, t] })
    (B : Nat) (e : TypeId) (i : TypeInfo) (z : Value) (size bytes : Nat) (ht : P.underlying t = some (.slice e)) (hi : P.info? e = some i) (hz : i.zero = some z)
    (hsize : i.size = size) (hby : i.bytes = bytes) (hzs : z.cells.size = size) (hsz : 0 < size)
    (v : Value) (n : Nat) (xs : List Value) (hs : a.eval s = v) (how : Ow w B e size v n xs W)
    (BB : Nat) (A : Option Addr) (m c : Nat) (news : List Value) (hx : a.eval x = .slice A m c) (hr : RdS W BB size A m c news) (h1 : ∀ u ∈ news, u.oneCell' = true)
    (h63 : n + m ≤ maxLen) (hbytes : (n + m) * bytes ≤ 140737488355328)
    (h : ∀ v' W', Ow w B e size v' (n + m) (xs ++ news) W' → Below B W W' → W.grownBy W' v.ownBlock → wpList P ops Q rest (a.put o.dst v') W') :
    wpList P ops Q (o :: rest) a W := by
  refine wpList_append_rds hgd s x t ho B e i z size bytes ht hi hz hsize hby hzs hsz v n xs hs how.own BB A m c news hx hr h1 h63 hbytes how.hi fun v' w' hown hg _ => ?_
  have hk : ∀ k, v.ownBlock = some k → B ≤ k := fun k hk => (how.own.lt k hk).1
  exact h v' w' ⟨hown, how.below.grown hg how.below.size (fun k e => Nat.le_trans how.lo (hk k e)), how.lo, Nat.le_trans how.hi hg.size⟩ ((Below.refl B W).grown hg how.hi hk) hg
end Go.Proofs.Ytkhklhipiiehbaa

/- A drawn region in which more than one operation that turns memory may be next: each way. Rows of the call's own that grow in it, beside variables of its own. -/
namespace Go.Proofs.Ytkhklhipiiehbaa
open Go.RowKit

section
variable {P : Program} {ops : Array Oper} {S : Nat → Prop} {Q : Exit → Act → World → Prop} {md : Region.Mode} {fuel : Nat} {listed : Array Bool} {a : Act} {w : World}

end

theorem RdS.grown {W W' : World} {size n c : Nat} {A : Option Addr} {xs : List Value} {r : Option Nat} (h : RdS W W.heap.size size A n c xs) (hg : W.grownBy W' r) (hne : ∀ a, A = some a → 0 < n → some a.block ≠ r) : RdS W' W'.heap.size size A n c xs := by
  refine ⟨h.len, h.none_, h.le, fun a ha hn => Nat.lt_of_lt_of_le (h.low a ha hn) hg.size, fun a ha j u hu => ?_⟩
  rw [← h.cell a ha j u hu]
  refine World.cell?_of_block (hg.block _ ?_ ?_)
  · rw [add_block]; exact h.low a ha (h.pos hu)
  · rw [add_block]; exact hne a ha (h.pos hu)

end Go.Proofs.Ytkhklhipiiehbaa

/- A struct stored whole into a block; what stands then. -/
namespace Go.Proofs.Ytkhklhipiiehbaa
open Go.RowKit

theorem Whole.row {w : World} {g : Nat} {t : TypeId} {cs : List Value} (h : Whole w g t cs) (cs' : List Value) : Whole (w.setRow g cs'.toArray) g t cs' := setRow_heap w g _ _ _ _ h
end Go.Proofs.Ytkhklhipiiehbaa

/- Pieces of slices: the operations s[:k] and s[k:], and what they read as; the elements of a row at a known place. -/
namespace Go.Proofs.Ytkhklhipiiehbaa
open Go.RowKit Go.Deep
set_option linter.unusedSimpArgs false

/-- The elements of a row whose place is known. -/
theorem RdS.elem {w : World} {B s n c : Nat} {b off : Nat} {α : Type} {f : α → List Value} {L : List α} (hs : ∀ x, (f x).length = s) (h : RdS w B s (some ⟨b, off, none⟩) n c (rowsV f L)) {k : Nat} {x : α} (hk : L[k]? = some x) :
    ∀ j v, (f x)[j]? = some v → w.cell? (Addr.add ⟨b, off + k * s, none⟩ j) = some v := by
  intro j v hv
  have := h.cell _ rfl _ _ (rowsV_get f hs L k x hk j v hv)
  have e : (⟨b, off, none⟩ : Addr).add (k * s + j) = (⟨b, off + k * s, none⟩ : Addr).add j := by
    simp only [Addr.add_lit, Nat.add_assoc]
  rw [← e]
  exact this
end Go.Proofs.Ytkhklhipiiehbaa

/- Pieces of slices: the operation s[i:k]. -/
namespace Go.Proofs.Ytkhklhipiiehbaa
open Go.RowKit Go.Deep
set_option linter.unusedSimpArgs false

end Go.Proofs.Ytkhklhipiiehbaa

/- A region that draws its order, whose last operations (ts) come behind all others: those may turn what the others read. -/
namespace Go.Proofs.Ytkhklhipiiehbaa
open Go.RowKit

section
variable {P : Program} {ops : Array Oper} {Q : Exit → Act → World → Prop} {md : Region.Mode} {S : Nat → Prop} {ts : List Nat}

/-- Whatever order is picked from here on, in this world or in one that it has grown to; behind every operation only what S lets has turned. -/
def wpT (P : Program) (md : Region.Mode) (ops : Array Oper) (S : Nat → Prop) (ts : List Nat) (Q : Exit → Act → World → Prop) : Nat → Array Bool → Act → World → Prop
  | 0, listed, a, w => Region.ready md ops listed = [] ∧ ∀ w', Ext w w' → Q .normal a w'
  | fuel + 1, listed, a, w =>
    (Region.ready md ops listed = [] → ∀ w', Ext w w' → Q .normal a w') ∧
    ∀ w', Ext w w' → ∀ i ∈ Region.ready md ops listed, wpOp P ops Q i (fun a' w'' => (i ∉ ts → Kept S w' w'') ∧ wpT P md ops S ts Q fuel (listed.setIfInBounds i true) a' w'') a w'

theorem wpT.up : ∀ {fuel : Nat} {listed : Array Bool} {a : Act} {w w' : World}, wpT P md ops S ts Q fuel listed a w → Ext w w' → wpT P md ops S ts Q fuel listed a w'
  | 0, _, _, _, _, h, hw => ⟨h.1, fun w'' h' => h.2 w'' (hw.trans h')⟩
  | _ + 1, _, _, _, _, h, hw => ⟨fun h0 w'' h' => h.1 h0 w'' (hw.trans h'), fun w'' h' => h.2 w'' (hw.trans h')⟩

end
end Go.Proofs.Ytkhklhipiiehbaa

/- A region that draws its order, by an invariant: each operation's value meets a predicate that stays true while memory grows; whatever the order, all meet theirs at the end. -/
namespace Go.Proofs.Ytkhklhipiiehbaa
open Go.RowKit

section
variable {P : Program} {ops : Array Oper} {Q : Exit → Act → World → Prop} {md : Region.Mode}

/-- What an operation comes to: a value that meets T, and a world that has only grown. -/
def OutT (P : Program) (T : Value → World → Prop) (w : World) : Result Next → Prop
  | .ok (.value u) w' => Ext w w' ∧ T u w'
  | .ok (.enter f args) w' => Calls P f args w' fun e w'' => ∃ v, e = .returned v ∧ Ext w w'' ∧ T v w''
  | _ => False

theorem OutT.wp {o : Oper} {T : Value → World → Prop} {a : Act} {w : World} {K : Act → World → Prop} (h : OutT P T w ((execOp a.eval o).run P w)) (hK : ∀ v w', Ext w w' → T v w' → K (a.put o.dst v) w') : o.wp P a w K Q := by
  unfold Oper.wp
  generalize (execOp a.eval o).run P w = r at *
  cases r with
  | ok n w' =>
    cases n with
    | value u => exact hK _ _ h.1 h.2
    | enter f args =>
      refine Calls.mono h fun e w'' he => ?_
      obtain ⟨v, rfl, h1, h2⟩ := he
      exact hK _ _ h1 h2
    | _ => exact h.elim
  | halt x w' => exact h.elim

end
end Go.Proofs.Ytkhklhipiiehbaa

/- A region that draws its order, by an invariant, with operations behind it (from n on) that wait for all of the first n: whatever the order of the first n, all meet theirs; then the others are walked. -/
namespace Go.Proofs.Ytkhklhipiiehbaa
open Go.RowKit

section
variable {P : Program} {ops : Array Oper} {Q : Exit → Act → World → Prop} {md : Region.Mode}
end
end Go.Proofs.Ytkhklhipiiehbaa

/- Rows of the call's own, written to: a range of cells put in; an element set. -/
namespace Go.Proofs.Ytkhklhipiiehbaa
open Go.RowKit

def putR (cs : List Value) (o : Nat) (vs : List Value) : List Value := cs.take o ++ (vs ++ cs.drop (o + vs.length))
theorem putR_length (cs : List Value) (o : Nat) (vs : List Value) (h : o + vs.length ≤ cs.length) : (putR cs o vs).length = cs.length := by
  simp only [putR, List.length_append, List.length_take, List.length_drop]
  omega
theorem putR_nil (cs : List Value) (o : Nat) : putR cs o [] = cs := by simp [putR]
theorem putR_cons (cs : List Value) (o : Nat) (v : Value) (vs : List Value) (h : o < cs.length) : putR (cs.set o v) (o + 1) vs = putR cs o (v :: vs) := by
  unfold putR
  have e1 : (cs.set o v).take (o + 1) = cs.take o ++ [v] := by
    rw [List.take_set, List.take_add_one, List.getElem?_eq_getElem h]
    simp only [Option.toList_some]
    rw [List.set_append_right _ _ (by rw [List.length_take]; omega)]
    rw [show o - (cs.take o).length = 0 by rw [List.length_take]; omega]
    rfl
  rw [e1, List.drop_set_of_lt (by omega), List.length_cons, List.append_assoc, show o + 1 + vs.length = o + (vs.length + 1) by omega]
  rfl
theorem setCells_block (g : Nat) : ∀ (vs : List Value) (o : Nat) (w : World) (i : Nat), i ≠ g → (w.setCells g o vs).heap[i]? = w.heap[i]?
  | [], _, _, _, _ => rfl
  | v :: r, o, w, i, h => by
    rw [World.setCells, setCells_block g r (o + 1) _ i h]
    exact Below.heap_setCell w ⟨g, o, none⟩ v i h
theorem setCells_size (g : Nat) : ∀ (vs : List Value) (o : Nat) (w : World), (w.setCells g o vs).heap.size = w.heap.size
  | [], _, _ => rfl
  | v :: r, o, w => by
    rw [World.setCells, setCells_size g r (o + 1) _]
    simp [World.setCell]
theorem setCells_env (g : Nat) : ∀ (vs : List Value) (o : Nat) (w : World), (w.setCells g o vs).os = w.os ∧ (w.setCells g o vs).tape = w.tape ∧ (w.setCells g o vs).output = w.output
  | [], _, _ => ⟨rfl, rfl, rfl⟩
  | v :: r, o, w => by
    rw [World.setCells]
    exact setCells_env g r (o + 1) _
theorem below_setCells {B : Nat} {a w : World} {g : Nat} (h : Below B a w) (hg : B ≤ g) (o : Nat) (vs : List Value) : Below B a (w.setCells g o vs) :=
  ⟨(setCells_env g vs o w).1.trans h.os, (setCells_env g vs o w).2.1.trans h.tape, (setCells_env g vs o w).2.2.trans h.output, by rw [setCells_size]; exact h.size, fun i hi => (setCells_block g vs o w i (by omega)).trans (h.block i hi)⟩
theorem Whole.cells_ {g : Nat} {t : TypeId} : ∀ (vs : List Value) (o : Nat) (w : World) (cs : List Value), Whole w g t cs → o + vs.length ≤ cs.length → Whole (w.setCells g o vs) g t (putR cs o vs)
  | [], _, _, cs, h, _ => by rw [putR_nil]; exact h
  | v :: r, o, w, cs, h, hl => by
    rw [List.length_cons] at hl
    rw [World.setCells, ← putR_cons cs o v r (by omega)]
    exact Whole.cells_ r (o + 1) _ _ (h.set_ o v) (by rw [List.length_set]; omega)
theorem Whole.cells_far {w : World} {g g' : Nat} {t : TypeId} {cs : List Value} (h : Whole w g t cs) (hne : g ≠ g') (o : Nat) (vs : List Value) : Whole (w.setCells g' o vs) g t cs := (setCells_block g' vs o w g hne).trans h
theorem Whole.there_ {w : World} {g : Nat} {t : TypeId} {cs : List Value} (h : Whole w g t cs) (o n : Nat) (hl : o + n ≤ cs.length) : w.there g o n := fun j hj => by
  have hv : cs[o + j]? = some (cs[o + j]'(by omega)) := List.getElem?_eq_getElem (by omega)
  exact ⟨by rw [h.cell hv]; rfl, h.free _⟩
theorem own_cells_far {w : World} {lo k n g : Nat} {T : TypeId} {v : Value} {xs : List Value} (h : w.ownsRow lo T k v n xs) (hne : some g ≠ v.ownBlock) (o : Nat) (vs : List Value) : (w.setCells g o vs).ownsRow lo T k v n xs :=
  h.kept (row := some g) ⟨(setCells_env g vs o w).1, (setCells_env g vs o w).2.1, (setCells_env g vs o w).2.2, Nat.le_of_eq (setCells_size g vs o w).symm, fun i _ hk => setCells_block g vs o w i (fun e => hk (by rw [e]))⟩ (by first | exact hne | exact hne.symm | exact .inr hne | exact .inr hne.symm)
theorem own_cell_far {w : World} {lo k n g i : Nat} {T : TypeId} {v : Value} {xs : List Value} (h : w.ownsRow lo T k v n xs) (hne : some g ≠ v.ownBlock) (u : Value) : (w.setCell ⟨g, i, none⟩ u).ownsRow lo T k v n xs :=
  own_cells_far h hne i [u]

section
variable {α : Type} {f : α → List Value} {s : Nat}
theorem rowsV_put (hs : ∀ x, (f x).length = s) (L : List α) (junk : List Value) (k : Nat) (y : α) (hk : k < L.length) : putR (rowsV f L ++ junk) (k * s) (f y) = rowsV f (L.set k y) ++ junk := by
  have e1 : L.set k y = L.take k ++ y :: L.drop (k + 1) := by
    rw [List.set_eq_take_append_cons_drop, if_pos hk]
  have hl := rowsV_length f hs L
  have hm : (k + 1) * s ≤ L.length * s := Nat.mul_le_mul_right _ hk
  rw [Nat.succ_mul] at hm
  unfold putR
  rw [e1, rowsV_app, rowsV_take f hs]
  simp only [rowsV]
  rw [rowsV_drop f hs, hs, List.take_append_of_le_length (by omega), List.drop_append_of_le_length (by omega), show k * s + s = (k + 1) * s by rw [Nat.succ_mul]]
  simp only [List.append_assoc]
end

/-- Where a row of the call's own lies. -/
theorem own_place {W : World} {lo k n c : Nat} {T : TypeId} {A : Option Addr} {xs : List Value} (h : W.ownsRow lo T k (.slice A n c) n xs) (hn : 0 < n) :
    ∃ g junk, A = some ⟨g, 0, none⟩ ∧ lo ≤ g ∧ Whole W g T (xs ++ junk) ∧ (xs ++ junk).length = c * k ∧ n ≤ c ∧ c ≤ maxLen ∧ xs.length = n * k := by
  rcases h.2 with ⟨h1, h2⟩ | ⟨g, cap, cur, h1, hb, hg, hnc, hcm, hcs, ht⟩
  · omega
  · injection h1 with a1 a2 a3
    subst a1 a3
    have e : cur.toList = xs ++ cur.toList.drop (n * k) := by
      conv => lhs; rw [← List.take_append_drop (n * k) cur.toList, ht]
    refine ⟨g, cur.toList.drop (n * k), rfl, hb, ?_, ?_, hnc, hcm, h.1⟩
    · unfold Whole
      rw [← e]
      simpa using hg
    · rw [← e]
      simpa using hcs
theorem own_mk {W : World} {lo k n c g : Nat} {T : TypeId} {xs junk : List Value} (hw : Whole W g T (xs ++ junk)) (hlo : lo ≤ g) (hl : (xs ++ junk).length = c * k) (hnc : n ≤ c) (hcm : c ≤ maxLen) (hx : xs.length = n * k) :
    W.ownsRow lo T k (.slice (some ⟨g, 0, none⟩) n c) n xs :=
  ⟨hx, .inr ⟨g, c, (xs ++ junk).toArray, rfl, hlo, hw, hnc, hcm, by simpa using hl, by rw [← hx]; simp⟩⟩
theorem own_cap {W : World} {lo k n c : Nat} {T : TypeId} {A : Option Addr} {xs : List Value} (h : W.ownsRow lo T k (.slice A n c) n xs) : c ≤ maxLen := by
  rcases h.2 with ⟨h1, h2⟩ | ⟨g, cap, cur, h1, hb, hg, hnc, hcm, hcs, ht⟩
  · injection h1 with a1 a2 a3
    omega
  · injection h1 with a1 a2 a3
    omega
theorem own_rds {W : World} {lo k n c : Nat} {T : TypeId} {A : Option Addr} {xs : List Value} (h : W.ownsRow lo T k (.slice A n c) n xs) : RdS W W.heap.size k A n c xs := by
  obtain ⟨A', c', e, hr⟩ := RdS.of_own h
  injection e with a1 a2 a3
  subst a1 a3
  exact hr
/-- A row's block is of its own type. -/
theorem own_ne {W : World} {lo k n c g : Nat} {T T' : TypeId} {A : Option Addr} {xs cs : List Value} (h : W.ownsRow lo T k (.slice A n c) n xs) (hw : Whole W g T' cs) (hT : T' ≠ T) : some g ≠ (Value.slice A n c).ownBlock := by
  intro e
  rcases h.2 with ⟨h1, h2⟩ | ⟨g', cap, cur, h1, hb, hg, hnc, hcm, hcs, ht⟩
  · rw [h1] at e
    cases e
  · rw [h1] at e
    have e' : g = g' := Option.some.inj e
    subst e'
    unfold Whole at hw
    rw [hg] at hw
    injection hw with hw
    injection hw with _ ht
    exact hT ht.symm
theorem store_mid_run {P : Program} {ev : Operand → Value} {o : Oper} {w : World} (ty : TypeId) (x y : Operand) (ho : o.op = .store ty x y) (b off : Nat) (hx : ev x = .pointer (some ⟨b, off, none⟩))
    (cs : List Value) (hy : ev y = .agg cs.toArray) (ht : w.there b off cs.length) (hi : (P.info? ty).map (·.size) = some cs.length) (h1 : ∀ v ∈ cs, v.oneCell' = true) :
    (execOp ev o).run P w = .ok .skip (w.setCells b off cs) := by
  have h := run_storeAt_mid (P := P) w b off ty cs.toArray (by simpa using ht) (by simpa using hi) (all_oneCell_toArray h1)
  unfold execOp
  simp only [ho, hx, hy, Sem.run_bind, Sem.run_pure, Result.andThen_ok, h]
end Go.Proofs.Ytkhklhipiiehbaa

/- The order of names and darts: the contracts of ident's Order and OrderDart, and of the document's own; its laws; darts compared. -/
namespace Go.Proofs.Ytkhklhipiiehbaa
open Go.RowKit

/-- A call that answers v and leaves all that was there as it was, in every world. -/
def Pure (k : FuncId) (args : Array Value) (v : Value) : Prop := ∀ w : World, Calls Try.prog k args w fun e w' => e = .returned v ∧ Below w.heap.size w w'

def cmpI (a b : Int) : Int := if a < b then -1 else if b < a then 1 else 0
def ordI (s n s' n' : Int) : Int := if s = s' then cmpI n n' else cmpI s s'
def ordD (s n c s' n' c' : Int) : Int := if s = s' ∧ n = n' then cmpI c c' else ordI s n s' n'

theorem ret_int {a b : Int} (h : a = b) : Ending.returned (.int .i64 a) = .returned (.int .i64 b) := by rw [h]
theorem below1 (w : World) (o : Obj) : Below w.heap.size w (w.alloc o) := (Below.refl _ _).alloc (Nat.le_refl _) o
theorem below2 (w : World) (o o' : Obj) : Below w.heap.size w ((w.alloc o).alloc o') := (below1 w o).alloc (by simp) o'

theorem order_same (s n : Int) (w : World) :
    Calls Try.prog 30 #[.agg #[.int .i64 s, .int .i64 n], .agg #[.int .i64 s, .int .i64 n]] w fun e w' => e = .returned (.int .i64 0) ∧ Below w.heap.size w w' := by
  go_enter Try.func30, Try.ntmps30
  go_wp2
  go_ret
  exact ⟨rfl, below2 _ _ _⟩

theorem order_site_lt (s n s' n' : Int) (w : World) (h : s < s') :
    Calls Try.prog 30 #[.agg #[.int .i64 s, .int .i64 n], .agg #[.int .i64 s', .int .i64 n']] w fun e w' => e = .returned (.int .i64 (-1)) ∧ Below w.heap.size w w' := by
  have h1 : (s == s') = false := by simp; omega
  have h2 : (s != s') = true := by simp; omega
  go_enter Try.func30, Try.ntmps30
  go_wp2
  go_ret
  exact ⟨rfl, below2 _ _ _⟩

theorem order_site_gt (s n s' n' : Int) (w : World) (h : s' < s) :
    Calls Try.prog 30 #[.agg #[.int .i64 s, .int .i64 n], .agg #[.int .i64 s', .int .i64 n']] w fun e w' => e = .returned (.int .i64 1) ∧ Below w.heap.size w w' := by
  have h1 : (s == s') = false := by simp; omega
  have h2 : (s != s') = true := by simp; omega
  have h3 : ¬ s < s' := by omega
  go_enter Try.func30, Try.ntmps30
  go_wp2
  go_ret
  exact ⟨rfl, below2 _ _ _⟩

theorem order_n_lt (s n n' : Int) (w : World) (h : n < n') :
    Calls Try.prog 30 #[.agg #[.int .i64 s, .int .i64 n], .agg #[.int .i64 s, .int .i64 n']] w fun e w' => e = .returned (.int .i64 (-1)) ∧ Below w.heap.size w w' := by
  have h1 : (n == n') = false := by simp; omega
  go_enter Try.func30, Try.ntmps30
  go_wp2
  go_ret
  exact ⟨rfl, below2 _ _ _⟩

theorem order_n_gt (s n n' : Int) (w : World) (h : n' < n) :
    Calls Try.prog 30 #[.agg #[.int .i64 s, .int .i64 n], .agg #[.int .i64 s, .int .i64 n']] w fun e w' => e = .returned (.int .i64 1) ∧ Below w.heap.size w w' := by
  have h1 : (n == n') = false := by simp; omega
  have h3 : ¬ n < n' := by omega
  go_enter Try.func30, Try.ntmps30
  go_wp2
  go_ret
  exact ⟨rfl, below2 _ _ _⟩

theorem order_any (s n s' n' : Int) : Pure 30 #[.agg #[.int .i64 s, .int .i64 n], .agg #[.int .i64 s', .int .i64 n']] (.int .i64 (ordI s n s' n')) := fun w => by
  unfold ordI cmpI
  by_cases e : s = s'
  · subst e
    rw [if_pos rfl]
    by_cases h1 : n < n'
    · rw [if_pos h1]; exact order_n_lt s n n' w h1
    · rw [if_neg h1]
      by_cases h2 : n' < n
      · rw [if_pos h2]; exact order_n_gt s n n' w h2
      · rw [if_neg h2]
        obtain rfl : n = n' := by omega
        exact order_same s n w
  · rw [if_neg e]
    by_cases h1 : s < s'
    · rw [if_pos h1]; exact order_site_lt s n s' n' w h1
    · rw [if_neg h1, if_pos (by omega)]
      exact order_site_gt s n s' n' w (by omega)
theorem below_drewN (B : Nat) (w : World) (n : Nat) : Below B w (w.drewN n) := ⟨rfl, rfl, rfl, Nat.le_refl _, fun _ _ => rfl⟩
theorem below_after1 {w w1 : World} {o : Obj} (hb : Below (w.alloc o).heap.size (w.alloc o) w1) : Below w.heap.size w w1 := (below1 w o).trans (hb.mono (by simp))
theorem below_after2 {w w1 : World} {o o' : Obj} (hb : Below ((w.alloc o).alloc o').heap.size ((w.alloc o).alloc o') w1) : Below w.heap.size w w1 := (below2 w o o').trans (hb.mono (by simp; omega))

theorem bcell {W w1 : World} (hb : Below W.heap.size W w1) : (∀ b o, b < W.heap.size → w1.cell? ⟨b, o, none⟩ = W.cell? ⟨b, o, none⟩) ∧ (∀ b o, b < W.heap.size → w1.frozen? ⟨b, o, none⟩ = W.frozen? ⟨b, o, none⟩) :=
  ⟨fun _ _ h => hb.cell h, fun _ _ h => hb.frozen h⟩

theorem orderdart_edge (s n c s' n' c' : Int) (w : World) (h : ¬ (s = s' ∧ n = n')) :
    Calls Try.prog 25 #[.agg #[.int .i64 s, .int .i64 n, .int .i64 c], .agg #[.int .i64 s', .int .i64 n', .int .i64 c']] w fun e w' => e = .returned (.int .i64 (ordI s n s' n')) ∧ Below w.heap.size w w' := by
  have hm := Lib.hid (order_any s n s' n')
  by_cases h0 : s = s'
  · subst h0
    have h1 : (n == n') = false := by simpa using fun e => h ⟨rfl, e⟩
    clear h
    go_enter Try.func25, Try.ntmps25
    go_wp2_with (first | (go_at_call 30; refine (hm.out _).mono ?_; rintro e w' ⟨rfl, hb⟩; obtain ⟨hc, hf⟩ := bcell hb))
    go_ret
    exact ⟨rfl, below_after2 hb⟩
  · have h1 : (s == s') = false := by simpa using h0
    clear h
    go_enter Try.func25, Try.ntmps25
    go_wp2_with (first | (go_at_call 30; refine (hm.out _).mono ?_; rintro e w' ⟨rfl, hb⟩; obtain ⟨hc, hf⟩ := bcell hb))
    go_ret
    exact ⟨rfl, below_after2 hb⟩

theorem orderdart_side (s n c c' : Int) (w : World) :
    Calls Try.prog 25 #[.agg #[.int .i64 s, .int .i64 n, .int .i64 c], .agg #[.int .i64 s, .int .i64 n, .int .i64 c']] w fun e w' => e = .returned (.int .i64 (cmpI c c')) ∧ Below w.heap.size w w' := by
  unfold cmpI
  by_cases h1 : c < c'
  · rw [if_pos h1]
    go_enter Try.func25, Try.ntmps25
    go_wp2
    go_ret
    exact ⟨rfl, below2 _ _ _⟩
  · rw [if_neg h1]
    by_cases h2 : c' < c
    · rw [if_pos h2]
      go_enter Try.func25, Try.ntmps25
      go_wp2
      go_ret
      exact ⟨rfl, below2 _ _ _⟩
    · rw [if_neg h2]
      go_enter Try.func25, Try.ntmps25
      go_wp2
      go_ret
      exact ⟨rfl, below2 _ _ _⟩

theorem orderdart_any (s n c s' n' c' : Int) : Pure 25 #[.agg #[.int .i64 s, .int .i64 n, .int .i64 c], .agg #[.int .i64 s', .int .i64 n', .int .i64 c']] (.int .i64 (ordD s n c s' n' c')) := fun w => by
  unfold ordD
  by_cases h : s = s' ∧ n = n'
  · rw [if_pos h]
    obtain ⟨rfl, rfl⟩ := h
    exact orderdart_side s n c c' w
  · rw [if_neg h]
    exact orderdart_edge s n c s' n' c' w h

theorem rorder_any (s n s' n' : Int) : Pure 29 #[.agg #[.int .i64 s, .int .i64 n], .agg #[.int .i64 s', .int .i64 n']] (.int .i64 (ordI s n s' n')) := fun w => by
  unfold ordI cmpI
  by_cases e : s = s'
  · subst e
    rw [if_pos rfl]
    by_cases h1 : n < n'
    · rw [if_pos h1]
      have h3 : (n == n') = false := by simp; omega
      go_enter Try.func29, Try.ntmps29
      go_wp2
      go_ret
      exact ⟨rfl, below2 _ _ _⟩
    · rw [if_neg h1]
      by_cases h2 : n' < n
      · rw [if_pos h2]
        have h3 : (n == n') = false := by simp; omega
        go_enter Try.func29, Try.ntmps29
        go_wp2
        go_ret
        exact ⟨rfl, below2 _ _ _⟩
      · rw [if_neg h2]
        obtain rfl : n = n' := by omega
        clear h1 h2
        go_enter Try.func29, Try.ntmps29
        go_wp2
        go_ret
        exact ⟨rfl, below2 _ _ _⟩
  · rw [if_neg e]
    have h3 : (s == s') = false := by simp; omega
    by_cases h1 : s < s'
    · rw [if_pos h1]
      clear e
      go_enter Try.func29, Try.ntmps29
      go_wp2
      go_ret
      exact ⟨rfl, below2 _ _ _⟩
    · rw [if_neg h1, if_pos (by omega)]
      clear e
      go_enter Try.func29, Try.ntmps29
      go_wp2
      go_ret
      exact ⟨rfl, below2 _ _ _⟩

theorem cmpI_cases (a b : Int) : (a < b ∧ cmpI a b = -1) ∨ (b < a ∧ cmpI a b = 1) ∨ (a = b ∧ cmpI a b = 0) := by
  unfold cmpI
  split
  · exact .inl ⟨‹_›, rfl⟩
  · split
    · exact .inr (.inl ⟨‹_›, rfl⟩)
    · exact .inr (.inr ⟨by omega, rfl⟩)
theorem ordI_zero (s n s' n' : Int) : ordI s n s' n' = 0 ↔ s = s' ∧ n = n' := by
  unfold ordI
  have h1 := cmpI_cases n n'
  have h2 := cmpI_cases s s'
  split <;> omega

theorem rorderdart_any (s n c s' n' c' : Int) : Pure 19 #[.agg #[.int .i64 s, .int .i64 n, .int .i64 c], .agg #[.int .i64 s', .int .i64 n', .int .i64 c']] (.int .i64 (ordD s n c s' n' c')) := fun w => by
  unfold ordD
  have hm := rorder_any s n s' n'
  by_cases h : s = s' ∧ n = n'
  · rw [if_pos h]
    rw [(ordI_zero s n s' n').2 h] at hm
    have H := Lib.hid hm
    clear hm
    obtain ⟨rfl, rfl⟩ := h
    unfold cmpI
    by_cases h1 : c < c'
    · rw [if_pos h1]
      go_enter Try.func19, Try.ntmps19
      go_wp2_with (first | (go_at_call 29; refine (H.out _).mono ?_; rintro e w' ⟨rfl, hb⟩; obtain ⟨hc, hf⟩ := bcell hb))
      go_ret
      exact ⟨rfl, below_after2 hb⟩
    · rw [if_neg h1]
      by_cases h2 : c' < c
      · rw [if_pos h2]
        go_enter Try.func19, Try.ntmps19
        go_wp2_with (first | (go_at_call 29; refine (H.out _).mono ?_; rintro e w' ⟨rfl, hb⟩; obtain ⟨hc, hf⟩ := bcell hb))
        go_ret
        exact ⟨rfl, below_after2 hb⟩
      · rw [if_neg h2]
        go_enter Try.func19, Try.ntmps19
        go_wp2_with (first | (go_at_call 29; refine (H.out _).mono ?_; rintro e w' ⟨rfl, hb⟩; obtain ⟨hc, hf⟩ := bcell hb))
        go_ret
        exact ⟨rfl, below_after2 hb⟩
  · rw [if_neg h]
    have hz : ordI s n s' n' ≠ 0 := fun e => h ((ordI_zero s n s' n').1 e)
    clear h
    generalize ordI s n s' n' = x at *
    have H := Lib.hid hm
    clear hm
    have h1 : (x != 0) = true := by simpa using hz
    clear hz
    go_enter Try.func19, Try.ntmps19
    go_wp2_with (first | (go_at_call 29; refine (H.out _).mono ?_; rintro e w' ⟨rfl, hb⟩; obtain ⟨hc, hf⟩ := bcell hb))
    go_ret
    exact ⟨rfl, below_after2 hb⟩

theorem ordI_neg (s n s' n' : Int) : ordI s' n' s n = - ordI s n s' n' := by
  unfold ordI
  have h1 := cmpI_cases n n'
  have h2 := cmpI_cases s s'
  have h3 := cmpI_cases n' n
  have h4 := cmpI_cases s' s
  split <;> split <;> omega
theorem ordI_trans (s n s' n' s2 n2 : Int) (h : ordI s n s' n' ≤ 0) (k : ordI s' n' s2 n2 ≤ 0) : ordI s n s2 n2 ≤ 0 := by
  unfold ordI at *
  have h1 := cmpI_cases n n'
  have h2 := cmpI_cases s s'
  have h3 := cmpI_cases n' n2
  have h4 := cmpI_cases s' s2
  have h5 := cmpI_cases n n2
  have h6 := cmpI_cases s s2
  split at h <;> split at k <;> split <;> omega
theorem ordD_zero (s n c s' n' c' : Int) : ordD s n c s' n' c' = 0 ↔ s = s' ∧ n = n' ∧ c = c' := by
  unfold ordD
  have h1 := cmpI_cases c c'
  have h2 := ordI_zero s n s' n'
  split <;> omega
theorem ordD_neg (s n c s' n' c' : Int) : ordD s' n' c' s n c = - ordD s n c s' n' c' := by
  unfold ordD
  have h1 := cmpI_cases c c'
  have h2 := cmpI_cases c' c
  have h3 := ordI_neg s n s' n'
  split <;> split <;> omega
theorem ordD_trans (s n c s' n' c' s2 n2 c2 : Int) (h : ordD s n c s' n' c' ≤ 0) (k : ordD s' n' c' s2 n2 c2 ≤ 0) : ordD s n c s2 n2 c2 ≤ 0 := by
  have h1 := cmpI_cases c c'
  have h2 := cmpI_cases c' c2
  have h3 := cmpI_cases c c2
  have h4 := ordI_trans s n s' n' s2 n2
  have h5 := ordI_zero s n s' n'
  unfold ordD at *
  by_cases e1 : s = s' ∧ n = n'
  · obtain ⟨rfl, rfl⟩ := e1
    rw [if_pos ⟨rfl, rfl⟩] at h
    by_cases e2 : s = s2 ∧ n = n2
    · rw [if_pos e2] at *; omega
    · rw [if_neg e2] at *; omega
  · rw [if_neg e1] at h
    by_cases e2 : s' = s2 ∧ n' = n2
    · obtain ⟨rfl, rfl⟩ := e2
      rw [if_neg e1]; omega
    · rw [if_neg e2] at k
      by_cases e3 : s = s2 ∧ n = n2
      · obtain ⟨rfl, rfl⟩ := e3
        have h6 := ordI_neg s n s' n'
        omega
      · rw [if_neg e3]; omega
theorem eq_id (s n s' n' : Int) (W : World) : (binOp .eql 30 (.agg #[.int .i64 s, .int .i64 n]) (.agg #[.int .i64 s', .int .i64 n'])).run Try.prog W = .ok (.bool (s == s' && n == n')) W := by
  by_cases h1 : s = s' <;> by_cases h2 : n = n' <;> simp [go_sem, h1, h2]
theorem eq_dart (s n c s' n' c' : Int) (W : World) : (binOp .eql 32 (.agg #[.int .i64 s, .int .i64 n, .int .i64 c]) (.agg #[.int .i64 s', .int .i64 n', .int .i64 c'])).run Try.prog W = .ok (.bool ((s == s' && n == n') && c == c')) W := by
  by_cases h1 : s = s' <;> by_cases h2 : n = n' <;> by_cases h3 : c = c' <;> simp [go_sem, h1, h2, h3]
end Go.Proofs.Ytkhklhipiiehbaa

/- Rings as lists of darts: turned to their least, searched, changed. No program stands in this text but the cells. -/
namespace Go.Proofs.Ytkhklhipiiehbaa
open Go.RowKit

abbrev D := Int × Int × Int
/-- The cells of a list of darts. -/
def dartsV : List D → List Value
  | [] => []
  | d :: l => .int .i64 d.1 :: .int .i64 d.2.1 :: .int .i64 d.2.2 :: dartsV l
theorem dartsV_length (l : List D) : (dartsV l).length = l.length * 3 := by
  induction l with
  | nil => rfl
  | cons p l ih => simp [dartsV, ih]; omega
theorem dartsV_get (l : List D) (k : Nat) (h : k < l.length) : (dartsV l)[k * 3]? = some (.int .i64 (l.getD k (0, 0, 0)).1) ∧ (dartsV l)[k * 3 + 1]? = some (.int .i64 (l.getD k (0, 0, 0)).2.1) ∧ (dartsV l)[k * 3 + 2]? = some (.int .i64 (l.getD k (0, 0, 0)).2.2) := by
  induction l generalizing k with
  | nil => simp at h
  | cons p l ih =>
    cases k with
    | zero => simp [dartsV]
    | succ k =>
      have := ih k (by simpa using h)
      have e1 : (k + 1) * 3 = k * 3 + 3 := by omega
      have e2 : (k + 1) * 3 + 1 = k * 3 + 1 + 3 := by omega
      have e3 : (k + 1) * 3 + 2 = k * 3 + 2 + 3 := by omega
      rw [e2, e3, e1]
      simpa [dartsV] using this
/-- The cells of a slice of darts, as the walk spells them. -/
theorem RdS.darts {w : World} {B n c : Nat} {A : Option Addr} {l : List D} (h : RdS w B 3 A n c (dartsV l)) (hn : 0 < n) :
    ∃ b off, A = some ⟨b, off, none⟩ ∧ b < B ∧ ∀ k, k < l.length → w.cell? ⟨b, off + k * 3, none⟩ = some (.int .i64 (l.getD k (0, 0, 0)).1) ∧ w.cell? ⟨b, off + k * 3 + 1, none⟩ = some (.int .i64 (l.getD k (0, 0, 0)).2.1) ∧ w.cell? ⟨b, off + k * 3 + 2, none⟩ = some (.int .i64 (l.getD k (0, 0, 0)).2.2) := by
  have hl : l.length = n := by
    have := h.len
    rw [dartsV_length] at this
    omega
  cases A with
  | none => exact absurd (h.none_ rfl).1 (by omega)
  | some a =>
    have h0 := h.cell a rfl 0 _ (dartsV_get l 0 (by omega)).1
    have ha : ∃ b off, a = ⟨b, off, none⟩ := by
      obtain ⟨b, off, f⟩ := a
      cases f with
      | none => exact ⟨b, off, rfl⟩
      | some f =>
        simp [Addr.add, World.cell?] at h0
        split at h0 <;> cases h0
    obtain ⟨b, off, rfl⟩ := ha
    refine ⟨b, off, rfl, h.low _ rfl hn, fun k hk => ?_⟩
    obtain ⟨g1, g2, g3⟩ := dartsV_get l k hk
    have e1 := h.cell _ rfl _ _ g1
    have e2 := h.cell _ rfl _ _ g2
    have e3 := h.cell _ rfl _ _ g3
    rw [Addr.add_lit] at e1 e2 e3
    exact ⟨e1, e2, e3⟩
theorem RdS.dlen {w : World} {B n c : Nat} {A : Option Addr} {l : List D} (h : RdS w B 3 A n c (dartsV l)) : l.length = n := by
  have := h.len
  rw [dartsV_length] at this
  omega

/-- The place of a dart, -1 if it is not there. -/
def idxD (L : List D) (d : D) : Int := if d ∈ L then (L.idxOf d : Int) else -1
end Go.Proofs.Ytkhklhipiiehbaa

/- Darts searched and compared: the contracts of slices.Index, slices.Equal, ring.Index, and of the document's Index and Darts. -/
namespace Go.Proofs.Ytkhklhipiiehbaa
open Go.RowKit
set_option linter.unusedSimpArgs false

theorem eq_dart_run (x y : D) (W : World) : (binOp .eql 32 (.agg #[.int .i64 x.1, .int .i64 x.2.1, .int .i64 x.2.2]) (.agg #[.int .i64 y.1, .int .i64 y.2.1, .int .i64 y.2.2])).run Try.prog W = .ok (.bool (decide (x = y))) W := by
  rw [eq_dart]
  congr 2
  rw [Bool.eq_iff_iff]
  obtain ⟨x1, x2, x3⟩ := x
  obtain ⟨y1, y2, y3⟩ := y
  simp [and_assoc]
theorem neq_dart_run (x y : D) (W : World) : (binOp .neq 32 (.agg #[.int .i64 x.1, .int .i64 x.2.1, .int .i64 x.2.2]) (.agg #[.int .i64 y.1, .int .i64 y.2.1, .int .i64 y.2.2])).run Try.prog W = .ok (.bool (!decide (x = y))) W := by
  obtain ⟨x1, x2, x3⟩ := x
  obtain ⟨y1, y2, y3⟩ := y
  by_cases h1 : x1 = y1 <;> by_cases h2 : x2 = y2 <;> by_cases h3 : x3 = y3 <;> simp [go_sem, h1, h2, h3]

theorem idxOf_le (L : List D) (d : D) (k : Nat) (h : L.getD k (0, 0, 0) = d) (hk : k < L.length) : L.idxOf d ≤ k := by
  induction L generalizing k with
  | nil => simp at hk
  | cons x L ih =>
    rw [List.idxOf_cons]
    by_cases e : x = d
    · have hb : (x == d) = true := by rw [beq_iff_eq]; exact e
      rw [hb]
      exact Nat.zero_le _
    · have hb : (x == d) = false := by rw [beq_eq_false_iff_ne]; exact e
      rw [hb]
      cases k with
      | zero => exact absurd (by simpa using h) e
      | succ k =>
        have := ih k (by simpa using h) (by simpa using hk)
        show L.idxOf d + 1 ≤ k + 1
        omega
theorem idxD_at {L : List D} {d : D} {k : Nat} (hk : k < L.length) (he : L.getD k (0, 0, 0) = d) (hn : ∀ j, j < k → L.getD j (0, 0, 0) ≠ d) : idxD L d = k := by
  have hm : d ∈ L := by
    rw [← he, List.getD_eq_getElem?_getD, List.getElem?_eq_getElem hk]
    exact List.getElem_mem hk
  have hi : L.idxOf d < L.length := List.idxOf_lt_length_of_mem hm
  have hg : L[L.idxOf d] = d := List.getElem_idxOf hi
  rw [idxD, if_pos hm]
  have h1 : ¬ L.idxOf d < k := fun h => hn _ h (by rw [List.getD_eq_getElem?_getD, List.getElem?_eq_getElem hi]; exact hg)
  have h2 : ¬ k < L.idxOf d := fun h => by
    have h3 := idxOf_le L d k he hk
    omega
  omega
theorem idxD_not {L : List D} {d : D} (hn : ∀ j, j < L.length → L.getD j (0, 0, 0) ≠ d) : idxD L d = -1 := by
  rw [idxD, if_neg]
  intro hm
  have hi : L.idxOf d < L.length := List.idxOf_lt_length_of_mem hm
  exact hn _ hi (by rw [List.getD_eq_getElem?_getD, List.getElem?_eq_getElem hi]; exact List.getElem_idxOf hi)

/-- What holds at each round of Index. -/
def IdxAt (w : World) (L : List D) (d : D) (k : Nat) (x : World) : Prop :=
  (∀ j, j < k → L.getD j (0, 0, 0) ≠ d) ∧ Whole x w.heap.size 32 [.int .i64 d.1, .int .i64 d.2.1, .int .i64 d.2.2] ∧ Below w.heap.size w x

set_option maxHeartbeats 400000 in
theorem sindex_any (A : Option Addr) (n c : Nat) (L : List D) (d : D) (w : World) (h : RdS w w.heap.size 3 A n c (dartsV L)) (hn : n ≤ 9223372036854775807) :
    Calls Try.prog 37 #[.slice A n c, .agg #[.int .i64 d.1, .int .i64 d.2.1, .int .i64 d.2.2]] w fun e w' => e = .returned (.int .i64 (idxD L d)) ∧ Below w.heap.size w w' := by
  have hl := h.dlen
  have HL := Lib.hid hl
  have H := Lib.hid h
  have HS : RowKit.Hid (IdxAt w L d 0 (w.alloc (.cells #[.int .i64 d.1, .int .i64 d.2.1, .int .i64 d.2.2] 32))) := ⟨fun j hj => absurd hj (by omega), Whole.new_ w _ [.int .i64 d.1, .int .i64 d.2.1, .int .i64 d.2.2], below1 _ _⟩
  clear h hl
  go_enter Try.func37, Try.ntmps37
  go_wp2
  go_loopw [8] (fun i wr => ∃ k : Nat, k ≤ n ∧ i = .int .i64 k ∧ IdxAt w L d k wr) (fun i _ => n - (intOf i).toNat)
  case atStart => exact ⟨0, Nat.zero_le _, rfl, HS.out⟩
  case round =>
    obtain ⟨k, hk, rfl, h1, h2, h3⟩ := hrel
    have H1 := Lib.hid h1
    have H2 := Lib.hid h2
    have H3 := Lib.hid h3
    clear h1 HS
    by_cases hlt : k < n
    · obtain ⟨b, off, rfl, hb, hc⟩ := H.out.darts (by omega)
      obtain ⟨c1, c2, c3⟩ := hc k (by rw [HL.out]; exact hlt)
      have d1 := (h3.cell (p := ⟨b, off + k * 3, none⟩) hb).trans c1
      have d2 := (h3.cell (p := ⟨b, off + k * 3 + 1, none⟩) hb).trans c2
      have d3 := (h3.cell (p := ⟨b, off + k * 3 + 2, none⟩) hb).trans c3
      have b1 := h2.cell (i := 0) rfl
      have b2 := h2.cell (i := 1) rfl
      have b3 := h2.cell (i := 2) rfl
      obtain ⟨x, gx⟩ : ∃ v, L.getD k (0, 0, 0) = v := ⟨_, rfl⟩
      rw [gx] at d1 d2 d3
      have GX := Lib.hid gx
      have hq := eq_dart_run d x
      clear h2 h3 hc c1 c2 c3 gx
      by_cases hd : d = x
      · have hd' : decide (d = x) = true := by simpa using hd
        rw [hd'] at hq
        have HD := Lib.hid hd
        clear hd hd'
        go_wp2
        go_quiet (fail)
        go_wp2
        go_ret
        exact ⟨ret_int (by rw [idxD_at (by rw [HL.out]; exact hlt) (GX.out.trans HD.out.symm) H1.out]), ⟨H3.out.os, H3.out.tape, H3.out.output, H3.out.size, H3.out.block⟩⟩
      · have hd' : decide (d = x) = false := by simpa using hd
        rw [hd'] at hq
        have HD := Lib.hid hd
        clear hd hd'
        go_wp2
        go_quiet (fail)
        go_wp2
        go_roundw
        case rel =>
          refine ⟨k + 1, by omega, by go_num, fun j hj => ?_, H2.out, ⟨H3.out.os, H3.out.tape, H3.out.output, H3.out.size, H3.out.block⟩⟩
          rcases Nat.lt_or_ge j k with h | h
          · exact H1.out j h
          · obtain rfl : j = k := by omega
            rw [GX.out]
            exact fun e => HD.out e.symm
        case measure => simp [intOf]; omega
    · clear h2 h3
      go_wp2
      go_ret
      refine ⟨ret_int ?_, H3.out⟩
      rw [idxD_not]
      intro j hj
      exact H1.out j (by have := HL.out; omega)

theorem rindex_any (A : Option Addr) (n c : Nat) (L : List D) (d : D) (w : World) (h : RdS w w.heap.size 3 A n c (dartsV L)) (hn : n ≤ 9223372036854775807) :
    Calls Try.prog 28 #[.slice A n c, .agg #[.int .i64 d.1, .int .i64 d.2.1, .int .i64 d.2.2]] w fun e w' => e = .returned (.int .i64 (idxD L d)) ∧ Below w.heap.size w w' := by
  have HI := Lib.hid (fun W h => sindex_any A n c L d W h hn)
  have H := Lib.hid h
  clear h
  go_enter Try.func28, Try.ntmps28
  go_wp2_with (go_at_call 37; refine (HI.out _ (by exact H.out.up (below1 _ _) (by simp))).mono ?_; rintro e w2 ⟨rfl, hb⟩)
  go_ret
  exact ⟨rfl, below_after1 hb⟩

end Go.Proofs.Ytkhklhipiiehbaa

/- Rings turned to their least: the contract of ring.turned. -/
namespace Go.Proofs.Ytkhklhipiiehbaa
open Go.RowKit
set_option linter.unusedSimpArgs false

/-- The parts of a ring, as they lie in a slice of slices. -/
structure Parts (w : World) (A : Option Addr) (n : Nat) (Ps : List (List D)) : Prop where
  len : Ps.length = n
  part : ∀ k, k < n → ∃ b off A' c', A = some ⟨b, off, none⟩ ∧ b < w.heap.size ∧ w.cell? ⟨b, off + k, none⟩ = some (.slice A' (Ps.getD k []).length c') ∧ RdS w w.heap.size 3 A' (Ps.getD k []).length c' (dartsV (Ps.getD k []))
theorem Parts.up {w w' : World} {A : Option Addr} {n : Nat} {Ps : List (List D)} (h : Parts w A n Ps) (hb : Below w.heap.size w w') : Parts w' A n Ps :=
  ⟨h.len, fun k hk => by
    obtain ⟨b, off, A', c', e, hb1, hc, hr⟩ := h.part k hk
    exact ⟨b, off, A', c', e, Nat.lt_of_lt_of_le hb1 hb.size, (hb.cell hb1).trans hc, hr.up hb hb.size⟩⟩

end Go.Proofs.Ytkhklhipiiehbaa

/- Rings turned, searched along: the contracts of ring.Turn, along, Next, Prev; and of ring.Same. -/
namespace Go.Proofs.Ytkhklhipiiehbaa
open Go.RowKit
set_option linter.unusedSimpArgs false

theorem RdS.whole3 {w : World} {g : Nat} {t : TypeId} {L : List D} (hw : Whole w g t (dartsV L)) : RdS w w.heap.size 3 (some ⟨g, 0, none⟩) L.length L.length (dartsV L) :=
  ⟨dartsV_length L, fun e => (by cases e), Nat.le_refl _, fun a e _ => (by obtain rfl := Option.some.inj e; exact hw.lt), fun a e j u hj => (by
    obtain rfl := Option.some.inj e
    rw [Addr.add_lit]
    simpa using hw.cell hj)⟩
end Go.Proofs.Ytkhklhipiiehbaa

/- ident.May, and the document's own. -/
namespace Go.Proofs.Ytkhklhipiiehbaa
open Go.RowKit

end Go.Proofs.Ytkhklhipiiehbaa

/- The contracts of diagram.MayLabel and of the document's own. -/
namespace Go.Proofs.Ytkhklhipiiehbaa
open Go.RowKit
set_option linter.unusedSimpArgs false
set_option linter.unusedVariables false

end Go.Proofs.Ytkhklhipiiehbaa

/- A diagram in memory: its cells; and as lists. -/
namespace Go.Proofs.Ytkhklhipiiehbaa
open Go.RowKit Go.Maps
set_option linter.unusedSimpArgs false
set_option linter.unusedVariables false

/-- A slice of darts, and the darts. -/
abbrev Rg := Option Addr × Nat × Nat × List D
/-- A vertex: its name, ring, label, attribute; an edge: its name, label, attribute. -/
abbrev VC := (Int × Int) × Rg × ByteArray × Int
abbrev EC := (Int × Int) × ByteArray × Int
def vC (v : VC) : List Value := [.int .i64 v.1.1, .int .i64 v.1.2, .slice v.2.1.1 v.2.1.2.1 v.2.1.2.2.1, .string v.2.2.1, .int .i64 v.2.2.2]
def eC (e : EC) : List Value := [.int .i64 e.1.1, .int .i64 e.1.2, .string e.2.1, .int .i64 e.2.2]
theorem vC_len (v : VC) : (vC v).length = 5 := rfl
theorem eC_len (e : EC) : (eC e).length = 4 := rfl
def dC (d : D) : List Value := [.int .i64 d.1, .int .i64 d.2.1, .int .i64 d.2.2]
theorem dC_len (d : D) : (dC d).length = 3 := rfl
theorem dartsV_rows (l : List D) : dartsV l = rowsV dC l := by
  induction l with
  | nil => rfl
  | cons d l ih => rw [dartsV, ih]; rfl
/-- A ring lies where its slice says. -/
def RgOk (w : World) (r : Rg) : Prop := r.2.2.1 ≤ maxLen ∧ RdS w w.heap.size 3 r.1 r.2.1 r.2.2.1 (dartsV r.2.2.2)
/-- A diagram: its two rows. -/
structure DgIn (w : World) (A : Option Addr) (n c : Nat) (Vs : List VC) (B : Option Addr) (m k : Nat) (Es : List EC) : Prop where
  v : RdS w w.heap.size 5 A n c (rowsV vC Vs)
  e : RdS w w.heap.size 4 B m k (rowsV eC Es)
  r : ∀ x ∈ Vs, RgOk w x.2.1
theorem DgIn.below {w w' : World} {A B : Option Addr} {n c m k : Nat} {Vs : List VC} {Es : List EC} (h : DgIn w A n c Vs B m k Es) (hb : Below w.heap.size w w') : DgIn w' A n c Vs B m k Es :=
  ⟨h.v.bl hb, h.e.bl hb, fun x hx => ⟨(h.r x hx).1, (h.r x hx).2.bl hb⟩⟩
end Go.Proofs.Ytkhklhipiiehbaa

/- What a vertex and an edge are asked: name, label, attribute; names that rise. -/
namespace Go.Proofs.Ytkhklhipiiehbaa
open Go.RowKit
set_option linter.unusedSimpArgs false
set_option linter.unusedVariables false

theorem ret_whole {P : Program} {fn : Func} {R : Ending → World → Prop} {a : Act} {w : World} {p : Tmp} {t : TypeId} (h : fn.results = #[.cell p t]) (g : Nat) {t' : TypeId} {cs : List Value} {d : TypeDesc}
    (hp : a.tmps.getD p undef = .pointer (some ⟨g, 0, none⟩)) (hW : Whole w g t' cs) (hu : P.underlying t = some d) (hd : d.isRow = true) (hi : (P.info? t).map (·.size) = some cs.length)
    (hdf : a.defers = []) (hR : R (.returned (.agg cs.toArray)) w) : bodyPost P fn R .ret a w := by
  refine bodyPost_ret (v := .agg cs.toArray) ?_ hdf hR
  have hl := run_loadVar_mid (P := P) w g 0 t cs d (fun j v hv => by
    have := hW.cell hv
    simpa using this) hu hd hi
  have hp2 := hp
  rw [Array.getD_eq_getD_getElem?] at hp2
  simp [results, h, hp2, asAddr, Sem.run_bind, Result.andThen, hl]

set_option maxRecDepth 100000 in
theorem nameV (v : VC) (w : World) : Calls Try.prog 35 #[.agg (vC v).toArray] w fun e w' => e = .returned (.agg #[.int .i64 v.1.1, .int .i64 v.1.2]) ∧ Below w.heap.size w w' := by
  obtain ⟨⟨i1, i2⟩, ⟨rA, rn, rc, rL⟩, lb, at_⟩ := v
  show Calls Try.prog 35 #[.agg #[.int .i64 i1, .int .i64 i2, .slice rA rn rc, .string lb, .int .i64 at_]] w _
  go_enter Try.func35, Try.ntmps35
  go_wp2
  have hW := Whole.new_ (w.alloc (.cells (#[.int .i64 i1, .int .i64 i2, .slice rA rn rc, .string lb, .int .i64 at_]) 53)) 30 [.int .i64 i1, .int .i64 i2]
  simp only [World.size_alloc] at hW
  refine ret_whole rfl (w.heap.size + 1) rfl hW Try.underlying30 rfl (by kernel_rfl) rfl ?_
  exact ⟨rfl, by first | exact below2 _ _ _ | exact (below2 _ _ _).setCell (by simp) _ | exact ((below2 _ _ _).setCell (by simp) _).setCell (by simp) _⟩
end Go.Proofs.Ytkhklhipiiehbaa

/- all[T]: each of a row may be. -/
namespace Go.Proofs.Ytkhklhipiiehbaa
open Go.RowKit
set_option linter.unusedSimpArgs false
set_option linter.unusedVariables false

/-- A function of the program is entered. -/
abbrev Ent (k : Nat) : Prop := ∀ (args : Array Value) (W : World), (callFunc k args).run Try.prog W = .ok (.enter k args) W
theorem ent_of {k : Nat} {fn : Func} {c : Code} (hf : Try.prog.funcs[k]? = some fn) (hname : (fn.name == "runtime.NumGoroutine") = false) (hb : fn.body = some c) : Ent k := fun args W => by
  have h1 : fn.name ≠ "runtime.NumGoroutine" := by simpa using hname
  simp [callFunc, Sem.run_bind, hf, hb, h1]
end Go.Proofs.Ytkhklhipiiehbaa

/- turned: each ring begins with its least dart. -/
namespace Go.Proofs.Ytkhklhipiiehbaa
open Go.RowKit
set_option linter.unusedSimpArgs false
set_option linter.unusedVariables false

theorem RgOk.below {w w' : World} {r : Rg} (h : RgOk w r) (hb : Below w.heap.size w w') : RgOk w' r := ⟨h.1, h.2.bl hb⟩
end Go.Proofs.Ytkhklhipiiehbaa

/- A dart as a key; a set of darts. -/
namespace Go.Proofs.Ytkhklhipiiehbaa
open Go.RowKit Go.Maps
set_option linter.unusedSimpArgs false
set_option linter.unusedVariables false

def wfD (d : D) : Prop := (Lit.int .i64 d.1).wf = true ∧ (Lit.int .i64 d.2.1).wf = true ∧ (Lit.int .i64 d.2.2).wf = true
def kD (d : D) : Lit := .string (keyBytes [.int .i64 d.1, .int .i64 d.2.1, .int .i64 d.2.2])
theorem wide_dart : (match Try.prog.underlying 32 with | some (.array _ _) | some (.struct _) => true | _ => false) = true := by rw [Try.underlying32]
theorem laid_prog : laidOutB Try.prog = true := by kernel_rfl
set_option maxRecDepth 100000 in
theorem law_dart : WideMaps.KeyLaw Try.prog 32 := deep_law_laid laid_prog (m := 3) (by omega) (by show 32 < Try.prog.types.size; rw [show Try.prog.types.size = Try.prog.types.size from rfl]; decide) (by kernel_rfl) wide_dart
theorem keyed_dart : Keyed Try.prog 32 := Keyed.of_law law_dart
theorem lits_dart (m : Nat) (d : D) (h : wfD d) : Try.prog.keyLits (m + 3) 32 (dC d) = some [.int .i64 d.1, .int .i64 d.2.1, .int .i64 d.2.2] := by
  obtain ⟨h1, h2, h3⟩ := h
  have c1 : Try.prog.cellsOf 32 = 3 := by kernel_rfl
  have c2 : Try.prog.cellsOf 30 = 2 := by kernel_rfl
  have c3 : Try.prog.cellsOf 3 = 1 := by kernel_rfl
  have i1 : ∀ (n : Nat) (x : Int), (Lit.int .i64 x).wf = true → Try.prog.keyLits (n + 1) 3 [.int .i64 x] = some [.int .i64 x] := fun n x hx => by simp [Program.keyLits, Try.underlying3, hx]
  have i2 : ∀ n, Try.prog.keyLits (n + 2) 30 [.int .i64 d.1, .int .i64 d.2.1] = some [.int .i64 d.1, .int .i64 d.2.1] := fun n => by
    unfold Program.keyLits
    simp only [Try.underlying30, c2]
    rw [if_pos ⟨rfl, by kernel_rfl⟩]
    simp [c3, i1, h1, h2]
  unfold Program.keyLits
  simp only [Try.underlying32, c1]
  rw [if_pos ⟨rfl, by kernel_rfl⟩]
  simp [c2, c3, i1, i2, h3, dC]
theorem key_dart (d : D) (h : wfD d) : keyOf Try.prog 32 (.agg (dC d).toArray) = some (kD d) := by
  have hk : Try.prog.keyType 32 = true := by kernel_rfl
  have c1 : Try.prog.cellsOf 32 = 3 := by kernel_rfl
  have hf : (Value.agg (dC d).toArray).formed Try.prog 32 = true := by simp [Value.formed, Try.underlying32, c1, dC]
  obtain ⟨m, hm⟩ : ∃ m, Try.prog.types.size + 1 = m + 3 := ⟨Try.prog.types.size - 2, by kernel_rfl⟩
  have hl := lits_dart m d h
  rw [← hm] at hl
  unfold keyOf
  simp only [Try.underlying32, hk, hf, Value.cells, Bool.and_self, if_true]
  rw [hl]
  rfl
theorem kD_inj {a b : D} (ha : wfD a) (hb : wfD b) (h : kD a = kD b) : a = b := by
  have := keyed_dart.inj (key_dart a ha) (by rw [h]; exact key_dart b hb)
  simp [dC] at this
  obtain ⟨a1, a2, a3⟩ := a
  obtain ⟨b1, b2, b3⟩ := b
  simp_all
theorem kD_key {a : D} (ha : wfD a) : WideAt.IsKeyLit (kD a) := keyed_dart.key (key_dart a ha)

/-- The datum is this set of darts. -/
structure SetD {H : Type} (Dt : DataW H) (S : List D) : Prop where
  tidy : Tidy Dt
  nd : S.Nodup
  wf : ∀ d ∈ S, wfD d
  size : Maps.size Dt = S.length
  has : ∀ d, wfD d → Maps.has Dt (kD d) = decide (d ∈ S)
def insD (d : D) (S : List D) : List D := if d ∈ S then S else d :: S
theorem SetD.empty {H : Type} : SetD (.map [] : DataW H) [] := ⟨tidy_empty, List.nodup_nil, by simp, rfl, fun d _ => by simp [Maps.has]⟩
theorem SetD.put {H : Type} {Dt : DataW H} {S : List D} (h : SetD Dt S) (d : D) (hd : wfD d) (u : DataW H) : SetD (Dt.put (kD d) u) (insD d S) := by
  have hm := h.has d hd
  refine ⟨h.tidy.put (kD_key hd) u, ?_, ?_, ?_, ?_⟩
  · unfold insD
    split
    · exact h.nd
    · rename_i hn; exact List.nodup_cons.2 ⟨hn, h.nd⟩
  · intro x hx
    unfold insD at hx
    split at hx
    · exact h.wf x hx
    · rcases List.mem_cons.1 hx with rfl | hx
      · exact hd
      · exact h.wf x hx
  · rw [size_put h.tidy, hm, h.size]
    unfold insD
    split <;> simp_all
  · intro x hx
    by_cases e : x = d
    · subst e
      rw [has_put_same h.tidy.isMap (kD_key hd)]
      unfold insD
      split <;> simp_all
    · rw [has_put_other (fun e' => e (kD_inj hx hd e')), h.has x hx]
      unfold insD
      split <;> simp_all
end Go.Proofs.Ytkhklhipiiehbaa

/- eachOnce: just the darts of the edges stand in rings, each once. -/
namespace Go.Proofs.Ytkhklhipiiehbaa
open Go.RowKit Go.Maps
set_option linter.unusedSimpArgs false
set_option linter.unusedVariables false

/-- The map in block b of wr is this set of darts. -/
def MapS (wr : World) (b n : Nat) (S : List D) : Prop := ∃ Dt : DataW Unit, wr.ownsMap Try.prog 32 unitElem b n Dt ∧ SetD Dt S
theorem MapS.alloc {w : World} {b n : Nat} {S : List D} (h : MapS w b n S) (o : Obj) : MapS (w.alloc o) b n S := let ⟨Dt, h1, h2⟩ := h; ⟨Dt, h1.alloc o, h2⟩
theorem MapS.mono {w : World} {b n n' : Nat} {S : List D} (h : MapS w b n S) (hn : n ≤ n') : MapS w b n' S := let ⟨Dt, h1, h2⟩ := h; ⟨Dt, h1.mono hn, h2⟩
theorem MapS.lt {w : World} {b n : Nat} {S : List D} (h : MapS w b n S) : b < w.heap.size := let ⟨_, h1, _⟩ := h; h1.lt
section
variable {ops : Array Oper} {rest : List Oper} {o : Oper} {a : Act} {Q : Exit → Act → World → Prop} {w : World}
end
end Go.Proofs.Ytkhklhipiiehbaa

/- eachOnce: the walk. -/
namespace Go.Proofs.Ytkhklhipiiehbaa
open Go.RowKit Go.Maps
set_option linter.unusedSimpArgs false
set_option linter.unusedVariables false

end Go.Proofs.Ytkhklhipiiehbaa

/- Form. -/
namespace Go.Proofs.Ytkhklhipiiehbaa
open Go.RowKit
set_option linter.unusedSimpArgs false
set_option linter.unusedVariables false

end Go.Proofs.Ytkhklhipiiehbaa

/- The document's examples: loop, shown. -/
namespace Go.Proofs.Ytkhklhipiiehbaa
open Go.RowKit
set_option linter.unusedSimpArgs false
set_option linter.unusedVariables false

theorem RdS.of_whole {W : World} {g : Nat} {t : TypeId} {cs : List Value} {n size : Nat} (h : Whole W g t cs) (hl : cs.length = n * size) : RdS W W.heap.size size (some ⟨g, 0, none⟩) n n cs :=
  ⟨hl, fun e => (by cases e), Nat.le_refl _, fun a ha _ => (by obtain rfl := Option.some.inj ha; exact h.lt), fun a ha j u hu => (by
    obtain rfl := Option.some.inj ha
    rw [Addr.add_lit]
    simpa using h.cell hu)⟩
theorem RdS.no (W : World) (B size : Nat) : RdS W B size none 0 0 [] := ⟨by simp, fun _ => ⟨rfl, rfl⟩, Nat.le_refl _, fun a h => (by cases h), fun a h => (by cases h)⟩
end Go.Proofs.Ytkhklhipiiehbaa

/- few. -/
namespace Go.Proofs.Ytkhklhipiiehbaa
open Go.RowKit
set_option linter.unusedSimpArgs false
set_option linter.unusedVariables false

theorem info_vertex : (Try.prog.info? 53).map (fun i => (i.zero, i.size, i.bytes)) = some (some (.agg #[.int .i64 0, .int .i64 0, .slice none 0 0, .string { data := #[] }, .int .i64 0]), 5, 64) := by kernel_rfl
theorem info_edge : (Try.prog.info? 65).map (fun i => (i.zero, i.size, i.bytes)) = some (some (.agg #[.int .i64 0, .int .i64 0, .string { data := #[] }, .int .i64 0]), 4, 40) := by kernel_rfl
theorem info_partsD {o : Option TypeInfo} {z : Value} {s b : Nat} (h : o.map (fun i => (i.zero, i.size, i.bytes)) = some (some z, s, b)) : ∃ i, o = some i ∧ i.zero = some z ∧ i.size = s ∧ i.bytes = b := by
  cases o with
  | none => simp at h
  | some i => simp at h; exact ⟨i, rfl, h⟩
theorem Ow.low_ne {w W : World} {B size n g : Nat} {e : TypeId} {v : Value} {xs : List Value} (h : Ow w B e size v n xs W) (hg : g < B) : some g ≠ v.ownBlock := fun e => by
  have := (h.own.lt g e.symm).1
  omega
theorem Ow.set_far {w W : World} {B size n g i : Nat} {e : TypeId} {v : Value} {xs : List Value} (h : Ow w B e size v n xs W) (hne : some g ≠ v.ownBlock) (hg : w.heap.size ≤ g) (u : Value) : Ow w B e size v n xs (W.setCell ⟨g, i, none⟩ u) :=
  ⟨h.own.kept (row := some g) ⟨rfl, rfl, rfl, by simp [World.setCell], fun k _ hk => Below.heap_setCell _ _ _ _ (by
    rintro rfl
    exact hk rfl)⟩ (by first | exact hne | exact hne.symm | exact .inr hne | exact .inr hne.symm), h.below.setCell hg u, h.lo, by simpa [World.setCell] using h.hi⟩
theorem Whole.set_far' {W : World} {g h i : Nat} {t : TypeId} {cs : List Value} (hw : Whole W g t cs) (hne : g ≠ h) (u : Value) : Whole (W.setCell ⟨h, i, none⟩ u) g t cs :=
  hw.at_ (Below.heap_setCell _ _ _ _ hne)
def fewV (v : VC) : VC := if 30 < v.2.1.2.1 then (v.1, (v.2.1.1, 30, v.2.1.2.2.1, v.2.1.2.2.2.take 30), v.2.2) else v
/-- Both rows are new, and not too long. -/
def FwNew (w : World) (A : Option Addr) (n c : Nat) (B : Option Addr) (m k : Nat) : Prop :=
  c ≤ maxLen ∧ k ≤ maxLen ∧ (∀ a, A = some a → 0 < n → w.heap.size ≤ a.block) ∧ (∀ a, B = some a → 0 < m → w.heap.size ≤ a.block)
theorem RdS.far_ {W : World} {B size n c g i : Nat} {A : Option Addr} {xs : List Value} (h : RdS W B size A n c xs) (hne : ∀ a, A = some a → 0 < n → a.block ≠ g) (u : Value) : RdS (W.setCell ⟨g, i, none⟩ u) B size A n c xs :=
  ⟨h.len, h.none_, h.le, h.low, fun a ha j x hx => (World.cell?_of_block (Below.heap_setCell _ _ _ _ (by
    rw [add_block]
    first | exact hne a ha (h.pos hx) | exact (hne a ha (h.pos hx)).symm))).trans (h.cell a ha j x hx)⟩
/-- Between two rounds: the edges' row grows. -/
structure FewB (w : World) (Vs : List VC) (Es : List EC) (A B : Option Addr) (n c m k b0 b1 b2 B2 N : Nat) (A1 : Option Addr) (c1 j : Nat) (v u : Value) (wr : World) : Prop where
  ow : Ow w B2 65 4 v j (rowsV eC (Es.take j)) wr
  x0 : Whole wr b0 25 [.slice A n c, .slice B m k]
  x1 : Whole wr b1 25 [.slice none 0 0, .slice none 0 0]
  x2 : Whole wr b2 25 [.slice A1 N c1, u]
  rv : RdS wr B2 5 A1 N c1 (rowsV vC ((Vs.take 30).map fewV))
section
variable {w wr wr' : World} {Vs : List VC} {Es : List EC} {A B A1 : Option Addr} {n c m k b0 b1 b2 B2 N c1 j : Nat} {v u : Value}
theorem FewB.below (h : FewB w Vs Es A B n c m k b0 b1 b2 B2 N A1 c1 j v u wr) (hb : Below wr.heap.size wr wr') : FewB w Vs Es A B n c m k b0 b1 b2 B2 N A1 c1 j v u wr' :=
  ⟨h.ow.up hb, h.x0.below hb, h.x1.below hb, h.x2.below hb, h.rv.up (hb.mono h.ow.hi) (Nat.le_refl _)⟩
theorem FewB.store (h : FewB w Vs Es A B n c m k b0 b1 b2 B2 N A1 c1 j v u wr) (h02 : b0 ≠ b2) (h12 : b1 ≠ b2) (h2 : b2 < B2) (hl : w.heap.size ≤ b2) (hne : ∀ a, A1 = some a → 0 < N → a.block ≠ b2) :
    FewB w Vs Es A B n c m k b0 b1 b2 B2 N A1 c1 j v v (wr.setCell ⟨b2, 1, none⟩ v) :=
  ⟨h.ow.set_far (h.ow.low_ne h2) hl v, h.x0.set_far' h02 v, h.x1.set_far' h12 v, h.x2.set_ 1 v, h.rv.far_ hne v⟩
end
theorem RgOk.few {w : World} {v : VC} (h : RgOk w v.2.1) : RgOk w (fewV v).2.1 := by
  unfold fewV
  split
  · rename_i h30
    refine ⟨h.1, ?_⟩
    have := h.2.take_ 30 (by omega)
    rw [dartsV_rows, ← rowsV_take dC dC_len] at this
    show RdS w w.heap.size 3 v.2.1.1 30 v.2.1.2.2.1 (dartsV (v.2.1.2.2.2.take 30))
    rw [dartsV_rows]
    exact this
  · exact h
end Go.Proofs.Ytkhklhipiiehbaa

/- slices.Clone of vertices, edges, darts; cloneVertex. -/
namespace Go.Proofs.Ytkhklhipiiehbaa
open Go.RowKit
set_option linter.unusedSimpArgs false
set_option linter.unusedVariables false

theorem info_dartD : (Try.prog.info? 32).map (fun i => (i.zero, i.size, i.bytes)) = some (some (.agg #[.int .i64 0, .int .i64 0, .int .i64 0]), 3, 24) := by kernel_rfl
set_option maxRecDepth 100000 in
theorem cloneDs (A : Option Addr) (n c : Nat) (xs : List Value) (w : World) (h : RdS w w.heap.size 3 A n c xs) (h1 : ∀ u ∈ xs, u.oneCell' = true) (hn : n ≤ 1000000) :
    Calls Try.prog 40 #[.slice A n c] w fun e w' => ∃ A' c', e = .returned (.slice A' n c') ∧ Ow w w.heap.size 32 3 (.slice A' n c') n xs w' := by
  obtain ⟨i0, hi, hz0, hz1, hz2⟩ := info_partsD info_dartD
  cases A with
  | none =>
    obtain ⟨rfl, rfl⟩ := h.none_ rfl
    have hnil : xs = [] := List.eq_nil_of_length_eq_zero (by simpa using h.len)
    subst hnil
    have hnil : ∀ w', (binOp .eql 51 (.slice none 0 0) (.slice none 0 0)).run Try.prog w' = .ok (.bool true) w' := fun w' => Lib.run_eql_slice_nil w' _ _ _ _ _ _ _ Try.underlying51
    clear h h1
    go_enter Try.func40, Try.ntmps40
    go_wp2
    go_ret
    exact ⟨_, _, rfl, Ow.nil_ (Below.refl _ _) (Nat.le_refl _) (Nat.le_refl _)⟩
  | some a =>
    have H := Lib.hid (h.al (.cells #[] 32))
    have HO : RowKit.Hid (Ow w w.heap.size 32 3 (.slice (some ⟨w.heap.size, 0, none⟩) 0 0) 0 [] (w.alloc (.cells #[] 32))) := Lib.hid (Ow.new_ (cs := #[]) (Below.refl _ _) (Nat.le_refl _) (Nat.le_refl _) (Nat.zero_le _) rfl)
    have hnil : ∀ w', (binOp .eql 51 (.slice (some a) n c) (.slice none 0 0)).run Try.prog w' = .ok (.bool false) w' := fun w' => Lib.run_eql_slice_nil w' _ _ _ _ _ _ _ Try.underlying51
    clear h
    go_enter Try.func40, Try.ntmps40
    go_wp2_with (first
      | (at_builtin
         refine wpList_push2 rfl (.tmp 5) (.tmp 6) _ rfl _ 32 i0 _ 3 24 Try.underlying51 hi hz0 hz1 hz2 rfl (by decide) _ _ _ rfl (by exact HO.out) _ (some a) n c xs rfl (by exact H.out) h1 (by unfold maxLen; omega) (by omega) ?_
         intro v1 w1 how1 hb1 hgr
         rw [Nat.zero_add, List.nil_append] at how1
         obtain ⟨Aq, cq, rfl, -⟩ := how1.rds
         have HO1 := Lib.hid how1
         clear how1 hb1 hgr))
    go_ret
    exact ⟨_, _, rfl, HO1.out⟩
theorem own_lo' {w : World} {B B' n : Nat} {e : TypeId} {size : Nat} {v : Value} {xs : List Value} (h : w.ownsRow B e size v n xs) (hB : B' ≤ B) : w.ownsRow B' e size v n xs := by
  refine ⟨h.1, ?_⟩
  rcases h.2 with h | ⟨g, cap, cur, h1, h2, h3⟩
  · exact .inl h
  · exact .inr ⟨g, cap, cur, h1, Nat.le_trans hB h2, h3⟩
theorem dartsV_one' (l : List D) : ∀ u ∈ dartsV l, u.oneCell' = true := by
  rw [dartsV_rows]
  exact rowsV_one dC (by simp [dC, Value.oneCell']) l
set_option maxRecDepth 100000 in
/-- A vertex with a ring of its own. -/
theorem cloneV (v : VC) (w : World) (h : RgOk w v.2.1) (hn : v.2.1.2.1 ≤ 1000000) :
    Calls Try.prog 36 #[.agg (vC v).toArray] w fun e w' => ∃ A' c', e = .returned (.agg (vC (v.1, (A', v.2.1.2.1, c', v.2.1.2.2.2), v.2.2)).toArray) ∧ Ow w w.heap.size 32 3 (.slice A' v.2.1.2.1 c') v.2.1.2.1 (dartsV v.2.1.2.2.2) w' := by
  obtain ⟨⟨i1, i2⟩, ⟨rA, rn, rc, rL⟩, lb, at_⟩ := v
  have hr : RdS w w.heap.size 3 rA rn rc (dartsV rL) := h.2
  replace hn : rn ≤ 1000000 := hn
  show Calls Try.prog 36 #[.agg #[.int .i64 i1, .int .i64 i2, .slice rA rn rc, .string lb, .int .i64 at_]] w fun e w' => ∃ A' c', e = .returned (.agg #[.int .i64 i1, .int .i64 i2, .slice A' rn c', .string lb, .int .i64 at_]) ∧ Ow w w.heap.size 32 3 (.slice A' rn c') rn (dartsV rL) w'
  have hz : Try.prog.info? 53 = Try.prog.info? 53 := rfl
  have HR := Lib.hid ((hr.al (.cells #[.int .i64 i1, .int .i64 i2, .slice rA rn rc, .string lb, .int .i64 at_] 53)).al (.cells #[.int .i64 0, .int .i64 0, .slice none 0 0, .string { data := #[] }, .int .i64 0] 53))
  have HW := Lib.hid ((Whole.new_ w 53 [.int .i64 i1, .int .i64 i2, .slice rA rn rc, .string lb, .int .i64 at_]).alloc (.cells #[.int .i64 0, .int .i64 0, .slice none 0 0, .string { data := #[] }, .int .i64 0] 53))
  have HY : RowKit.Hid (Whole _ (w.heap.size + 1) 53 [.int .i64 0, .int .i64 0, .slice none 0 0, .string { data := #[] }, .int .i64 0]) := Lib.hid (Whole.new2 (w := w.alloc (.cells #[.int .i64 i1, .int .i64 i2, .slice rA rn rc, .string lb, .int .i64 at_] 53)) (by simp))
  have HB := Lib.hid (below2 w (.cells #[.int .i64 i1, .int .i64 i2, .slice rA rn rc, .string lb, .int .i64 at_] 53) (.cells #[.int .i64 0, .int .i64 0, .slice none 0 0, .string { data := #[] }, .int .i64 0] 53))
  clear h hr hz
  go_enter Try.func36, Try.ntmps36
  go_wp2_with fail
  refine (cloneDs rA rn rc (dartsV rL) _ HR.out (dartsV_one' rL) hn).mono ?_
  rintro e w3 ⟨A', c', rfl, ho⟩
  have hsz : w.heap.size + 1 < ((w.alloc (.cells #[.int .i64 i1, .int .i64 i2, .slice rA rn rc, .string lb, .int .i64 at_] 53)).alloc (.cells #[.int .i64 0, .int .i64 0, .slice none 0 0, .string { data := #[] }, .int .i64 0] 53)).heap.size := by simp
  have hn0 := ho.low_ne (g := w.heap.size) (by omega)
  have hn1 := ho.low_ne (g := w.heap.size + 1) hsz
  have hx := HW.out.below ho.below
  have hy := HY.out.below ho.below
  have hO : Ow w w.heap.size 32 3 (.slice A' rn c') rn (dartsV rL) w3 := ⟨own_lo' ho.own (by omega), HB.out.trans (ho.below.mono HB.out.size), Nat.le_refl _, Nat.le_trans (by omega) ho.hi⟩
  have hf1 := ((((((hO.set_far (i := 2) hn0 (Nat.le_refl _) (.slice A' rn c')).set_far (i := 0) hn1 (by omega) (.int .i64 i1)).set_far (i := 1) hn1 (by omega) (.int .i64 i2)).set_far (i := 2) hn1 (by omega) (.slice A' rn c')).set_far (i := 3) hn1 (by omega) (.string lb)).set_far (i := 4) hn1 (by omega) (.int .i64 at_))
  have hf2 := (((((hy.set_far' (i := 2) (h := w.heap.size) (by omega) (.slice A' rn c')).set_ 0 (.int .i64 i1)).set_ 1 (.int .i64 i2)).set_ 2 (.slice A' rn c')).set_ 3 (.string lb)).set_ 4 (.int .i64 at_)
  have HF1 := Lib.hid hf1
  have HF2 := Lib.hid hf2
  have x0 := hx.cell (i := 0) rfl
  have x1 := hx.cell (i := 1) rfl
  have x2 := hx.cell (i := 2) rfl
  have x3 := hx.cell (i := 3) rfl
  have x4 := hx.cell (i := 4) rfl
  have f2 := hx.free 2
  have y0 := hy.cell (i := 0) rfl
  have y1 := hy.cell (i := 1) rfl
  have y2 := hy.cell (i := 2) rfl
  have y3 := hy.cell (i := 3) rfl
  have y4 := hy.cell (i := 4) rfl
  have e0 := hy.free 0
  have e1 := hy.free 1
  have e2 := hy.free 2
  have e3 := hy.free 3
  have e4 := hy.free 4
  clear ho hx hy hO hf1 hf2 hn0 hn1 hsz HW HY HB HR
  go_wp2
  exact ret_whole rfl (w.heap.size + 1) rfl HF2.out Try.underlying53 rfl (by kernel_rfl) rfl ⟨A', c', rfl, HF1.out⟩
end Go.Proofs.Ytkhklhipiiehbaa

/- Names. -/
namespace Go.Proofs.Ytkhklhipiiehbaa
open Go.RowKit
set_option linter.unusedSimpArgs false
set_option linter.unusedVariables false

def idC (x : Int × Int) : List Value := [.int .i64 x.1, .int .i64 x.2]
end Go.Proofs.Ytkhklhipiiehbaa

/- At: the vertex in whose ring a dart stands. -/
namespace Go.Proofs.Ytkhklhipiiehbaa
open Go.RowKit
set_option linter.unusedSimpArgs false
set_option linter.unusedVariables false

theorem ret_whole2 {P : Program} {fn : Func} {R : Ending → World → Prop} {a : Act} {w : World} {p u : Tmp} {t : TypeId} (h : fn.results = #[.cell p t, .tmp u]) (g : Nat) {t' : TypeId} {cs : List Value} {d : TypeDesc} {v : Value}
    (hp : a.tmps.getD p undef = .pointer (some ⟨g, 0, none⟩)) (hv : a.tmps.getD u undef = v) (hW : Whole w g t' cs) (hu : P.underlying t = some d) (hd : d.isRow = true) (hi : (P.info? t).map (·.size) = some cs.length)
    (hdf : a.defers = []) (hR : R (.returned (.tuple #[.agg cs.toArray, v])) w) : bodyPost P fn R .ret a w := by
  refine bodyPost_ret (v := .tuple #[.agg cs.toArray, v]) ?_ hdf hR
  have hl := run_loadVar_mid (P := P) w g 0 t cs d (fun j v hv => by
    have := hW.cell hv
    simpa using this) hu hd hi
  rw [results_cell_tmp h, hp, hv]
  simp [asAddr, Result.andThen, hl]
def atV (Vs : List VC) (x : D) : (Int × Int) × Bool := match Vs.find? (fun v => decide (x ∈ v.2.1.2.2.2)) with | some v => (v.1, true) | none => ((0, 0), false)
theorem atV_yes (v : VC) (r : List VC) (x : D) (h : x ∈ v.2.1.2.2.2) : atV (v :: r) x = (v.1, true) := by simp [atV, h]
theorem atV_no (v : VC) (r : List VC) (x : D) (h : ¬ x ∈ v.2.1.2.2.2) : atV (v :: r) x = atV r x := by simp [atV, h]
set_option maxRecDepth 100000 in
set_option maxHeartbeats 4000000 in
theorem at_any (A : Option Addr) (n c : Nat) (Vs : List VC) (B : Option Addr) (m k : Nat) (Es : List EC) (x1 x2 x3 : Int) (w : World) (h : DgIn w A n c Vs B m k Es) (hn : n ≤ 1000000) (hr : ∀ y ∈ Vs, y.2.1.2.1 ≤ 1000000) :
    Calls Try.prog 21 #[.agg #[.slice A n c, .slice B m k], .agg #[.int .i64 x1, .int .i64 x2, .int .i64 x3]] w fun e w' =>
      e = .returned (.tuple #[.agg #[.int .i64 (atV Vs (x1, x2, x3)).1.1, .int .i64 (atV Vs (x1, x2, x3)).1.2], .bool (atV Vs (x1, x2, x3)).2]) ∧ Below w.heap.size w w' := by
  have HV := Lib.hid h.v
  have HRg := Lib.hid h.r
  have Hhr := Lib.hid hr
  have Hlv := Lib.hid (h.v.rlen vC_len (by decide))
  obtain ⟨⟨⟨r1, r2⟩, r3⟩, gr⟩ : ∃ z, atV Vs (x1, x2, x3) = z := ⟨_, rfl⟩
  rw [gr]
  have HG := Lib.hid gr
  clear h hr gr
  go_enter Try.func21, Try.ntmps21
  go_wp2
  have hx1 : Whole _ (w.heap.size + 1) 32 [.int .i64 x1, .int .i64 x2, .int .i64 x3] := (Whole.new2 (w := w.alloc (.cells #[.slice A n c, .slice B m k] 25)) (by simp)).alloc (.cells #[.int .i64 0, .int .i64 0] 30)
  have hx2 : Whole _ (w.heap.size + 1 + 1) 30 [.int .i64 0, .int .i64 0] := Whole.new2 (w := (w.alloc (.cells #[.slice A n c, .slice B m k] 25)).alloc (.cells #[.int .i64 x1, .int .i64 x2, .int .i64 x3] 32)) (by simp)
  have hbl := bel_al (bel_al (below1 w (.cells #[.slice A n c, .slice B m k] 25)) (.cells #[.int .i64 x1, .int .i64 x2, .int .i64 x3] 32)) (.cells #[.int .i64 0, .int .i64 0] 30)
  obtain ⟨W0, gW0⟩ : ∃ z, ((w.alloc (.cells #[.slice A n c, .slice B m k] 25)).alloc (.cells #[.int .i64 x1, .int .i64 x2, .int .i64 x3] 32)).alloc (.cells #[.int .i64 0, .int .i64 0] 30) = z := ⟨_, rfl⟩
  have HB0 : RowKit.Hid (Below w.heap.size w W0) := Lib.hid (by rw [← gW0]; exact hbl)
  have hx1' : Whole W0 (w.heap.size + 1) 32 [.int .i64 x1, .int .i64 x2, .int .i64 x3] := by rw [← gW0]; exact hx1
  have hx2' : Whole W0 (w.heap.size + 1 + 1) 30 [.int .i64 0, .int .i64 0] := by rw [← gW0]; exact hx2
  obtain ⟨b2, gb2⟩ : ∃ z, w.heap.size + 1 + 1 = z := ⟨_, rfl⟩
  obtain ⟨b1, gb1⟩ : ∃ z, w.heap.size + 1 = z := ⟨_, rfl⟩
  obtain ⟨b0, gb0⟩ : ∃ z, w.heap.size = z := ⟨_, rfl⟩
  rw [gb1] at hx1'
  rw [gb2] at hx2'
  have HX1 := Lib.hid hx1'
  have HX2 := Lib.hid hx2'
  have Hl2 : RowKit.Hid (w.heap.size ≤ b2) := Lib.hid (by omega)
  rw [gW0, gb2, gb1, gb0]
  clear hx1 hx2 hbl hx1' hx2' gW0 gb2 gb1 gb0
  go_loopw [11] (fun si wr => ∃ j : Nat, j ≤ n ∧ si = .int .i64 j ∧ RowKit.Hid (Below w.heap.size w wr) ∧ RowKit.Hid (Whole wr b1 32 [.int .i64 x1, .int .i64 x2, .int .i64 x3]) ∧ RowKit.Hid (Whole wr b2 30 [.int .i64 0, .int .i64 0]) ∧ RowKit.Hid (atV (Vs.drop j) (x1, x2, x3) = ((r1, r2), r3))) (fun si _ => n - (intOf si).toNat)
  case atStart => exact ⟨0, by omega, rfl, HB0, HX1, HX2, HG⟩
  case round =>
    clear HB0 HX1 HX2 HG
    obtain ⟨j, hj, rfl, HB, HX1, HX2, HG⟩ := hrel
    obtain ⟨wo, gwo⟩ : ∃ z, wr = z := ⟨_, rfl⟩
    rw [gwo] at HB HX1 HX2 ⊢
    clear gwo
    have f0 := HX2.out.free 0
    have f1 := HX2.out.free 1
    have k0 := HX2.out.cell (i := 0) rfl
    have k1 := HX2.out.cell (i := 1) rfl
    by_cases hjn : j < n
    · clear f0 f1 k0 k1
      obtain ⟨y, hx⟩ : ∃ y, Vs[j]? = some y := ⟨_, List.getElem?_eq_getElem (by have := Hlv.out; omega)⟩
      have hdr : Vs.drop j = y :: Vs.drop (j + 1) := by
        rw [List.drop_eq_getElem_cons (List.getElem?_eq_some_iff.1 hx).1, (List.getElem?_eq_some_iff.1 hx).2]
      have hrg := HRg.out y (List.mem_of_getElem? hx)
      have hrn := Hhr.out y (List.mem_of_getElem? hx)
      have HG2 := HG.out
      rw [hdr] at HG2
      have HG3 := Lib.hid HG2
      obtain ⟨bb, off, rfl, hbB, hpl⟩ := HV.out.place vC_len (by decide) (by omega)
      have hbw := HB.out
      have q0 := hpl j _ hx 0 _ rfl
      have q1 := hpl j _ hx 1 _ rfl
      have q2 := hpl j _ hx 2 _ rfl
      have q3 := hpl j _ hx 3 _ rfl
      have q4 := hpl j _ hx 4 _ rfl
      simp only [Addr.add_lit, Nat.add_zero] at q0 q1 q2 q3 q4
      have l0 := (hbw.cell (p := ⟨bb, off + j * 5, none⟩) hbB).trans q0
      have l1 := (hbw.cell (p := ⟨bb, off + j * 5 + 1, none⟩) hbB).trans q1
      have l2 := (hbw.cell (p := ⟨bb, off + j * 5 + 2, none⟩) hbB).trans q2
      have l3 := (hbw.cell (p := ⟨bb, off + j * 5 + 3, none⟩) hbB).trans q3
      have l4 := (hbw.cell (p := ⟨bb, off + j * 5 + 4, none⟩) hbB).trans q4
      obtain ⟨⟨i1, i2⟩, ⟨rA, rn, rc, rL⟩, lb, at_⟩ := y
      have hR : RdS w w.heap.size 3 rA rn rc (dartsV rL) := hrg.2
      replace hrn : rn ≤ 1000000 := hrn
      have HBa := Lib.hid (bel_al HB.out (.cells #[.int .i64 i1, .int .i64 i2, .slice rA rn rc, .string lb, .int .i64 at_] 53))
      have HI := Lib.hid (rindex_any rA rn rc rL (x1, x2, x3) _ (hR.bl HBa.out) (by omega))
      have z0 := (HX1.out.alloc (.cells #[.int .i64 i1, .int .i64 i2, .slice rA rn rc, .string lb, .int .i64 at_] 53)).cell (i := 0) rfl
      have z1 := (HX1.out.alloc (.cells #[.int .i64 i1, .int .i64 i2, .slice rA rn rc, .string lb, .int .i64 at_] 53)).cell (i := 1) rfl
      have z2 := (HX1.out.alloc (.cells #[.int .i64 i1, .int .i64 i2, .slice rA rn rc, .string lb, .int .i64 at_] 53)).cell (i := 2) rfl
      clear hx hdr HG2 hpl hbw q0 q1 q2 q3 q4 hbB HG hrg hR
      obtain ⟨ix, gix⟩ : ∃ z, idxD rL (x1, x2, x3) = z := ⟨_, rfl⟩
      rw [gix] at HI
      have Gix := Lib.hid gix
      clear gix
      go_wp2_with fail
      refine HI.out.mono ?_
      rintro e w3 ⟨rfl, hb⟩
      have HB3 := Lib.hid (bel_bl HBa.out hb)
      have HX13 := Lib.hid ((HX1.out.alloc (.cells #[.int .i64 i1, .int .i64 i2, .slice rA rn rc, .string lb, .int .i64 at_] 53)).below hb)
      have HX23 := Lib.hid ((HX2.out.alloc (.cells #[.int .i64 i1, .int .i64 i2, .slice rA rn rc, .string lb, .int .i64 at_] 53)).below hb)
      have hy := (Whole.new_ wo 53 [.int .i64 i1, .int .i64 i2, .slice rA rn rc, .string lb, .int .i64 at_]).below hb
      have y0 := hy.cell (i := 0) rfl
      have y1 := hy.cell (i := 1) rfl
      clear hb z0 z1 z2 l0 l1 l2 l3 l4 hy HB HX1 HX2 HI
      by_cases hmem : (x1, x2, x3) ∈ rL
      · have e1 : idxD rL (x1, x2, x3) = (rL.idxOf (x1, x2, x3) : Int) := by rw [idxD, if_pos hmem]
        have h0 : 0 ≤ ix := by rw [← Gix.out, e1]; omega
        have hG := HG3.out
        rw [atV_yes _ _ _ hmem] at hG
        simp only [Prod.mk.injEq] at hG
        obtain ⟨⟨rfl, rfl⟩, rfl⟩ := hG
        have f0 := HX23.out.free 0
        have f1 := HX23.out.free 1
        have k0 := HX23.out.cell (i := 0) rfl
        have k1 := HX23.out.cell (i := 1) rfl
        have HY := Lib.hid ((HX23.out.set_ 0 (.int .i64 i1)).set_ 1 (.int .i64 i2))
        have HBf := Lib.hid ((HB3.out.setCell (p := ⟨b2, 0, none⟩) Hl2.out (.int .i64 i1)).setCell (p := ⟨b2, 1, none⟩) Hl2.out (.int .i64 i2))
        clear HX23 HG3
        go_wp2
        exact ret_whole2 rfl b2 rfl rfl HY.out Try.underlying30 rfl (by kernel_rfl) rfl ⟨rfl, HBf.out⟩
      · have h0 : ¬ 0 ≤ ix := by rw [← Gix.out, show idxD rL (x1, x2, x3) = -1 by rw [idxD, if_neg hmem]]; omega
        have hG := HG3.out
        rw [atV_no _ _ _ hmem] at hG
        have HG4 := Lib.hid hG
        clear hG HG3 y0 y1
        go_wp2
        go_roundw
        case rel => exact ⟨j + 1, by omega, by go_num, HB3, HX13, HX23, HG4⟩
        case measure => simp [intOf]; omega
    · obtain rfl : n = j := by omega
      have hG := HG.out
      rw [List.drop_eq_nil_of_le (by have := Hlv.out; omega)] at hG
      replace hG : (((0 : Int), (0 : Int)), false) = ((r1, r2), r3) := hG
      simp only [Prod.mk.injEq] at hG
      obtain ⟨⟨rfl, rfl⟩, rfl⟩ := hG
      have HY := Lib.hid ((HX2.out.set_ 0 (.int .i64 0)).set_ 1 (.int .i64 0))
      have HBf := Lib.hid ((HB.out.setCell (p := ⟨b2, 0, none⟩) Hl2.out (.int .i64 0)).setCell (p := ⟨b2, 1, none⟩) Hl2.out (.int .i64 0))
      clear HG HX2
      go_wp2
      exact ret_whole2 rfl b2 rfl rfl HY.out Try.underlying30 rfl (by kernel_rfl) rfl ⟨rfl, HBf.out⟩
end Go.Proofs.Ytkhklhipiiehbaa

/- find, Vertex, Edge. -/
namespace Go.Proofs.Ytkhklhipiiehbaa
open Go.RowKit
set_option linter.unusedSimpArgs false
set_option linter.unusedVariables false


def fnd {α : Type} (nm : α → Int × Int) (z : α) (L : List α) (x : Int × Int) : α × Bool := match L.find? (fun v => decide (nm v = x)) with | some v => (v, true) | none => (z, false)
theorem fnd_yes {α : Type} (nm : α → Int × Int) (z v : α) (r : List α) (x : Int × Int) (h : nm v = x) : fnd nm z (v :: r) x = (v, true) := by simp [fnd, h]
theorem fnd_no {α : Type} (nm : α → Int × Int) (z v : α) (r : List α) (x : Int × Int) (h : ¬ nm v = x) : fnd nm z (v :: r) x = fnd nm z r x := by simp [fnd, h]
def zV : VC := ((0, 0), (none, 0, 0, []), ⟨#[]⟩, 0)
def fndV (L : List VC) (x : Int × Int) := fnd (fun v : VC => v.1) zV L x
theorem fnd_mem {α : Type} (nm : α → Int × Int) (z : α) (L : List α) (x : Int × Int) : (fnd nm z L x).1 ∈ L ∨ fnd nm z L x = (z, false) := by
  unfold fnd
  split
  · rename_i v h; exact .inl (List.mem_of_find?_eq_some h)
  · exact .inr rfl
set_option maxRecDepth 100000 in
set_option maxHeartbeats 4000000 in
theorem findV (A : Option Addr) (n c : Nat) (L : List VC) (x1 x2 : Int) (w : World) (h : RdS w w.heap.size 5 A n c (rowsV vC L)) (hn : n ≤ 1000000) :
    Calls Try.prog 34 #[.slice A n c, .func (.func 35) #[] #[], .agg #[.int .i64 x1, .int .i64 x2]] w fun e w' => e = .returned (.tuple #[.agg (vC (fndV L (x1, x2)).1).toArray, .bool (fndV L (x1, x2)).2]) ∧ Below w.heap.size w w' := by
  have H := Lib.hid h
  have Hl := Lib.hid (h.rlen vC_len (by decide))
  obtain ⟨⟨r, ok⟩, gr⟩ : ∃ z, fndV L (x1, x2) = z := ⟨_, rfl⟩
  rw [gr]
  have HG := Lib.hid gr
  clear h gr
  go_enter Try.func34, Try.ntmps34
  go_wp2
  have hx0 : Whole ((w.alloc (.cells #[.int .i64 x1, .int .i64 x2] 30)).alloc (.cells #[.int .i64 0, .int .i64 0, .slice none 0 0, .string { data := #[] }, .int .i64 0] 53)) (w.heap.size) 30 [.int .i64 x1, .int .i64 x2] := ((Whole.new_ w 30 [.int .i64 x1, .int .i64 x2]).alloc (.cells #[.int .i64 0, .int .i64 0, .slice none 0 0, .string { data := #[] }, .int .i64 0] 53))
  have hx1 : Whole ((w.alloc (.cells #[.int .i64 x1, .int .i64 x2] 30)).alloc (.cells #[.int .i64 0, .int .i64 0, .slice none 0 0, .string { data := #[] }, .int .i64 0] 53)) (w.heap.size + 1) 53 [.int .i64 0, .int .i64 0, .slice none 0 0, .string { data := #[] }, .int .i64 0] := (Whole.new2 (w := (w.alloc (.cells #[.int .i64 x1, .int .i64 x2] 30))) (by simp))
  have hbl : Below w.heap.size w ((w.alloc (.cells #[.int .i64 x1, .int .i64 x2] 30)).alloc (.cells #[.int .i64 0, .int .i64 0, .slice none 0 0, .string { data := #[] }, .int .i64 0] 53)) := (bel_al (below1 w (.cells #[.int .i64 x1, .int .i64 x2] 30)) (.cells #[.int .i64 0, .int .i64 0, .slice none 0 0, .string { data := #[] }, .int .i64 0] 53))
  have hsz : w.heap.size + 1 + 1 ≤ (((w.alloc (.cells #[.int .i64 x1, .int .i64 x2] 30)).alloc (.cells #[.int .i64 0, .int .i64 0, .slice none 0 0, .string { data := #[] }, .int .i64 0] 53))).heap.size := by simp
  obtain ⟨W0, gW0⟩ : ∃ z, ((w.alloc (.cells #[.int .i64 x1, .int .i64 x2] 30)).alloc (.cells #[.int .i64 0, .int .i64 0, .slice none 0 0, .string { data := #[] }, .int .i64 0] 53)) = z := ⟨_, rfl⟩
  rw [gW0] at hx0 hx1 hbl hsz
  obtain ⟨b1, gb1⟩ : ∃ z, w.heap.size + 1 = z := ⟨_, rfl⟩
  rw [gb1] at hx1
  obtain ⟨b0, gb0⟩ : ∃ z, w.heap.size = z := ⟨_, rfl⟩
  rw [gb0] at hx0
  have HX0 := Lib.hid hx0
  have HX1 := Lib.hid hx1
  have HB0 := Lib.hid hbl
  have HS0 := Lib.hid hsz
  have Gb0 := Lib.hid gb0
  have Lb0 : RowKit.Hid (w.heap.size ≤ b0) := Lib.hid (by omega)
  have Gb1 := Lib.hid gb1
  have Lb1 : RowKit.Hid (w.heap.size ≤ b1) := Lib.hid (by omega)
  have N01 : RowKit.Hid (b0 ≠ b1) := Lib.hid (by omega)
  rw [gW0, gb1, gb0]
  clear gW0 hbl hsz hx0 hx1 gb0 gb1
  go_loopw [13] (fun si wr => ∃ j : Nat, j ≤ n ∧ si = .int .i64 j ∧ RowKit.Hid (Below w.heap.size w wr) ∧ RowKit.Hid (Whole wr b0 30 [.int .i64 x1, .int .i64 x2]) ∧ RowKit.Hid (Whole wr b1 53 [.int .i64 0, .int .i64 0, .slice none 0 0, .string { data := #[] }, .int .i64 0]) ∧ RowKit.Hid (fndV (L.drop j) (x1, x2) = (r, ok))) (fun si _ => n - (intOf si).toNat)
  case atStart => exact ⟨0, by omega, rfl, HB0, HX0, HX1, HG⟩
  case round =>
    clear HB0 HX0 HX1 HG
    obtain ⟨j, hj, rfl, HB, HX0, HX1, HG⟩ := hrel
    obtain ⟨wo, gwo⟩ : ∃ z, wr = z := ⟨_, rfl⟩
    rw [gwo] at HB HX0 HX1 ⊢
    clear gwo
    by_cases hjn : j < n
    · obtain ⟨x, hx⟩ : ∃ x, L[j]? = some x := ⟨_, List.getElem?_eq_getElem (by have := Hl.out; omega)⟩
      have hdr : L.drop j = x :: L.drop (j + 1) := by
        rw [List.drop_eq_getElem_cons (List.getElem?_eq_some_iff.1 hx).1, (List.getElem?_eq_some_iff.1 hx).2]
      have hg2 := HG.out
      rw [hdr] at hg2
      have HG2 := Lib.hid hg2
      obtain ⟨bb, off, rfl, hbB, hpl⟩ := H.out.place vC_len (by decide) (by omega)
      have hbw := HB.out
      have q0 := hpl j _ hx 0 _ rfl
      have q1 := hpl j _ hx 1 _ rfl
      have q2 := hpl j _ hx 2 _ rfl
      have q3 := hpl j _ hx 3 _ rfl
      have q4 := hpl j _ hx 4 _ rfl
      simp only [Addr.add_lit, Nat.add_zero] at q0 q1 q2 q3 q4
      have l0 := (hbw.cell (p := ⟨bb, off + j * 5, none⟩) hbB).trans q0
      have l1 := (hbw.cell (p := ⟨bb, off + j * 5 + 1, none⟩) hbB).trans q1
      have l2 := (hbw.cell (p := ⟨bb, off + j * 5 + 2, none⟩) hbB).trans q2
      have l3 := (hbw.cell (p := ⟨bb, off + j * 5 + 3, none⟩) hbB).trans q3
      have l4 := (hbw.cell (p := ⟨bb, off + j * 5 + 4, none⟩) hbB).trans q4
      clear hbw q0 q1 q2 q3 q4
      have hnm := fun W => nameV x W
      obtain ⟨⟨i1, i2⟩, ⟨rA, rn, rc, rL⟩, lb, at_⟩ := x
      have HNm : RowKit.Hid (∀ W, Calls Try.prog 35 #[.agg #[.int .i64 i1, .int .i64 i2, .slice rA rn rc, .string lb, .int .i64 at_]] W fun e w' => e = .returned (.agg #[.int .i64 i1, .int .i64 i2]) ∧ Below W.heap.size W w') := Lib.hid hnm
      clear hx hdr hg2 hpl hbB HG hnm
      go_upto_region 4 with fail
      have HX9 := Lib.hid (Whole.new_ wo 53 [.int .i64 i1, .int .i64 i2, .slice rA rn rc, .string lb, .int .i64 at_])
      have HX01 := Lib.hid (HX0.out.alloc (.cells #[.int .i64 i1, .int .i64 i2, .slice rA rn rc, .string lb, .int .i64 at_] 53))
      have HX11 := Lib.hid (HX1.out.alloc (.cells #[.int .i64 i1, .int .i64 i2, .slice rA rn rc, .string lb, .int .i64 at_] 53))
      have HB1 := Lib.hid (bel_al HB.out (.cells #[.int .i64 i1, .int .i64 i2, .slice rA rn rc, .string lb, .int .i64 at_] 53))
      obtain ⟨W1, gW1⟩ : ∃ z, wo.alloc (.cells #[.int .i64 i1, .int .i64 i2, .slice rA rn rc, .string lb, .int .i64 at_] 53) = z := ⟨_, rfl⟩
      obtain ⟨g9, gg9⟩ : ∃ z, wo.heap.size = z := ⟨_, rfl⟩
      replace HX9 : RowKit.Hid (Whole W1 g9 53 [.int .i64 i1, .int .i64 i2, .slice rA rn rc, .string lb, .int .i64 at_]) := Lib.hid (by rw [← gW1, ← gg9]; exact HX9.out)
      replace HX01 : RowKit.Hid (Whole W1 b0 30 [.int .i64 x1, .int .i64 x2]) := Lib.hid (by rw [← gW1]; exact HX01.out)
      replace HX11 : RowKit.Hid (Whole W1 b1 53 [.int .i64 0, .int .i64 0, .slice none 0 0, .string { data := #[] }, .int .i64 0]) := Lib.hid (by rw [← gW1]; exact HX11.out)
      replace HB1 : RowKit.Hid (Below w.heap.size w W1) := Lib.hid (by rw [← gW1]; exact HB1.out)
      rw [gW1, gg9]
      clear gW1 gg9 HB HX0 HX1 l0 l1 l2 l3 l4
      have ld0 : ∀ w', Kept Nil_ W1.drew w' → w'.cell? ⟨b0, 0, none⟩ = some (.int .i64 x1) := fun w' h => h.nil_cell (HX01.out.dr.cell (i := 0) rfl)
      have ld1 : ∀ w', Kept Nil_ W1.drew w' → w'.cell? ⟨b0, 1, none⟩ = some (.int .i64 x2) := fun w' h => h.nil_cell (HX01.out.dr.cell (i := 1) rfl)
      have heq := fun W => eq_id i1 i2 x1 x2 W
      obtain ⟨bq, gbq⟩ : ∃ z, (i1 == x1 && i2 == x2) = z := ⟨_, rfl⟩
      rw [gbq] at heq
      have Gbq := Lib.hid gbq
      clear gbq
      refine wp_region_reg (Nil_) (by kernel_rfl) ?_
      apply wpR_next 0 (some 17)
      · simp only [List.getElem?_toArray, List.getElem?_cons_succ, List.getElem?_cons_zero]; exact rfl
      · rfl
      · kernel_rfl
      · kernel_rfl
      · kernel_rfl
      · exact fun _ _ _ _ h => h
      apply Exists.intro
      apply And.intro
      · apply yr_run; rfl; intro w' hw'; go_simp; (try with_reducible rfl)
      simp only [Act.put, List.setIfInBounds_toArray, List.set_cons_zero, List.set_cons_succ]
      apply wpR_next 1 (some 18)
      · simp only [List.getElem?_toArray, List.getElem?_cons_succ, List.getElem?_cons_zero]; exact rfl
      · rfl
      · kernel_rfl
      · kernel_rfl
      · kernel_rfl
      · exact fun _ _ _ _ h => h
      apply Exists.intro
      apply And.intro
      · exact yr_load (by rfl) 53 (.tmp 9) rfl g9 rfl 53 [.int .i64 i1, .int .i64 i2, .slice rA rn rc, .string lb, .int .i64 at_] _ (fun w' h => h.whole HX9.out.dr (fun h => h)) Try.underlying53 rfl (by kernel_rfl)
      simp only [Act.put, List.setIfInBounds_toArray, List.set_cons_zero, List.set_cons_succ]
      apply wpR_next 2 (some 19)
      · simp only [List.getElem?_toArray, List.getElem?_cons_succ, List.getElem?_cons_zero]; exact rfl
      · rfl
      · kernel_rfl
      · kernel_rfl
      · kernel_rfl
      · exact fun _ _ _ _ h => h
      apply Exists.intro
      apply And.intro
      · apply yr_call; rfl; rotate_left; intro w' hw'; exact HNm.out w'; intro w'; go_simp
      simp only [Act.put, List.setIfInBounds_toArray, List.set_cons_zero, List.set_cons_succ]
      apply wpR_next 3 (some 20)
      · simp only [List.getElem?_toArray, List.getElem?_cons_succ, List.getElem?_cons_zero]; exact rfl
      · rfl
      · kernel_rfl
      · kernel_rfl
      · kernel_rfl
      · exact fun _ _ _ _ h => h
      apply Exists.intro
      apply And.intro
      · apply yr_run; rfl; intro w' hw'; go_simp; (try with_reducible rfl)
      simp only [Act.put, List.setIfInBounds_toArray, List.set_cons_zero, List.set_cons_succ]
      apply wpR_next 4 (some 21)
      · simp only [List.getElem?_toArray, List.getElem?_cons_succ, List.getElem?_cons_zero]; exact rfl
      · rfl
      · kernel_rfl
      · kernel_rfl
      · kernel_rfl
      · exact fun _ _ _ _ h => h
      apply Exists.intro
      apply And.intro
      · apply yr_run; rfl; intro w' hw'; go_simp; (try with_reducible rfl)
      simp only [Act.put, List.setIfInBounds_toArray, List.set_cons_zero, List.set_cons_succ]
      refine wpR_done (by kernel_rfl) ?_ _
      intro W3 hw3
      have HB3 := Lib.hid (bel_bl (bel_dr HB1.out) hw3)
      have HX03 := Lib.hid (HX01.out.dr.bl hw3)
      have HX13 := Lib.hid (HX11.out.dr.bl hw3)
      have HY3 := Lib.hid (HX9.out.dr.bl hw3)
      clear hw3 ld0 ld1 HB1 HX01 HX11 HX9 heq
      cases bq with
      | true =>
        have hq := Gbq.out
        rw [Bool.and_eq_true, beq_iff_eq, beq_iff_eq] at hq
        have hg := HG2.out
        rw [fndV, fnd_yes _ _ _ _ _ (by rw [hq.1, hq.2])] at hg
        injection hg with hg1 hg2
        subst hg1 hg2
        have f0 := HX13.out.free 0
        have y0 := HY3.out.cell (i := 0) rfl
        have k0 := HX13.out.cell (i := 0) rfl
        have f1 := HX13.out.free 1
        have y1 := HY3.out.cell (i := 1) rfl
        have k1 := HX13.out.cell (i := 1) rfl
        have f2 := HX13.out.free 2
        have y2 := HY3.out.cell (i := 2) rfl
        have k2 := HX13.out.cell (i := 2) rfl
        have f3 := HX13.out.free 3
        have y3 := HY3.out.cell (i := 3) rfl
        have k3 := HX13.out.cell (i := 3) rfl
        have f4 := HX13.out.free 4
        have y4 := HY3.out.cell (i := 4) rfl
        have k4 := HX13.out.cell (i := 4) rfl
        have HY := Lib.hid (((((HX13.out.set_ 0 (.int .i64 i1)).set_ 1 (.int .i64 i2)).set_ 2 (.slice rA rn rc)).set_ 3 (.string lb)).set_ 4 (.int .i64 at_))
        have HBf := Lib.hid (((((HB3.out.setCell (p := ⟨b1, 0, none⟩) Lb1.out (.int .i64 i1)).setCell (p := ⟨b1, 1, none⟩) Lb1.out (.int .i64 i2)).setCell (p := ⟨b1, 2, none⟩) Lb1.out (.slice rA rn rc)).setCell (p := ⟨b1, 3, none⟩) Lb1.out (.string lb)).setCell (p := ⟨b1, 4, none⟩) Lb1.out (.int .i64 at_))
        clear HX13 HG2 HB3 hq
        go_wp2
        exact ret_whole2 rfl b1 rfl rfl HY.out Try.underlying53 rfl (by kernel_rfl) rfl ⟨rfl, HBf.out⟩
      | false =>
        have hg := HG2.out
        rw [fndV, fnd_no _ _ _ _ _ (fun e => by
          have e1 : i1 = x1 := congrArg Prod.fst e
          have e2 : i2 = x2 := congrArg Prod.snd e
          have := Gbq.out
          rw [e1, e2] at this
          simp at this)] at hg
        have HG4 := Lib.hid hg
        clear hg HG2 HY3
        go_wp2
        go_roundw
        case rel => exact ⟨j + 1, by omega, by go_num, HB3, HX03, HX13, HG4⟩
        case measure => simp [intOf]; omega
    · obtain rfl : n = j := by omega
      have hg := HG.out
      rw [List.drop_eq_nil_of_le (by have := Hl.out; omega)] at hg
      replace hg : (zV, false) = (r, ok) := hg
      injection hg with hg1 hg2
      subst hg1 hg2
      have HX14 := Lib.hid (HX1.out.alloc (.cells #[.int .i64 0, .int .i64 0, .slice none 0 0, .string { data := #[] }, .int .i64 0] 53))
      have HB4 := Lib.hid (bel_al HB.out (.cells #[.int .i64 0, .int .i64 0, .slice none 0 0, .string { data := #[] }, .int .i64 0] 53))
      have f0 := HX14.out.free 0
      have k0 := HX14.out.cell (i := 0) rfl
      have f1 := HX14.out.free 1
      have k1 := HX14.out.cell (i := 1) rfl
      have f2 := HX14.out.free 2
      have k2 := HX14.out.cell (i := 2) rfl
      have f3 := HX14.out.free 3
      have k3 := HX14.out.cell (i := 3) rfl
      have f4 := HX14.out.free 4
      have k4 := HX14.out.cell (i := 4) rfl
      have HY := Lib.hid (((((HX14.out.set_ 0 (.int .i64 0)).set_ 1 (.int .i64 0)).set_ 2 (.slice none 0 0)).set_ 3 (.string { data := #[] })).set_ 4 (.int .i64 0))
      have HBf := Lib.hid (((((HB4.out.setCell (p := ⟨b1, 0, none⟩) Lb1.out (.int .i64 0)).setCell (p := ⟨b1, 1, none⟩) Lb1.out (.int .i64 0)).setCell (p := ⟨b1, 2, none⟩) Lb1.out (.slice none 0 0)).setCell (p := ⟨b1, 3, none⟩) Lb1.out (.string { data := #[] })).setCell (p := ⟨b1, 4, none⟩) Lb1.out (.int .i64 0))
      clear HG HX1 HX14 HB4
      go_wp2
      exact ret_whole2 rfl b1 rfl rfl HY.out Try.underlying53 rfl (by kernel_rfl) rfl ⟨rfl, HBf.out⟩
end Go.Proofs.Ytkhklhipiiehbaa

/- Vertex, Same of the program. -/
namespace Go.Proofs.Ytkhklhipiiehbaa
open Go.RowKit
set_option linter.unusedSimpArgs false
set_option linter.unusedVariables false


theorem fndV_ring {w : World} {A B : Option Addr} {n c m k : Nat} {Vs : List VC} {Es : List EC} (h : DgIn w A n c Vs B m k Es) (hr : ∀ x ∈ Vs, x.2.1.2.1 ≤ 1000000) (x : Int × Int) :
    RgOk w (fndV Vs x).1.2.1 ∧ (fndV Vs x).1.2.1.2.1 ≤ 1000000 := by
  rcases fnd_mem (fun v : VC => v.1) zV Vs x with hm | he
  · exact ⟨h.r _ hm, hr _ hm⟩
  · have e : fndV Vs x = (zV, false) := he
    rw [e]
    exact ⟨⟨Nat.zero_le _, RdS.no _ _ _⟩, by decide⟩
set_option maxRecDepth 100000 in
set_option maxHeartbeats 4000000 in
theorem vertex_any (A : Option Addr) (n c : Nat) (Vs : List VC) (B : Option Addr) (m k : Nat) (Es : List EC) (x1 x2 : Int) (w : World) (h : DgIn w A n c Vs B m k Es) (hn : n ≤ 1000000) (hr : ∀ x ∈ Vs, x.2.1.2.1 ≤ 1000000) (r : VC) (ok : Bool) (gr : fndV Vs (x1, x2) = (r, ok)) :
    Calls Try.prog 27 #[.agg #[.slice A n c, .slice B m k], .agg #[.int .i64 x1, .int .i64 x2]] w fun e w' => ∃ A' c', e = .returned (.tuple #[.agg (vC (r.1, (A', r.2.1.2.1, c', r.2.1.2.2.2), r.2.2)).toArray, .bool ok]) ∧ Ow w w.heap.size 32 3 (.slice A' r.2.1.2.1 c') r.2.1.2.1 (dartsV r.2.1.2.2.2) w' := by
  have HF := Lib.hid (fun W (hb : Below w.heap.size w W) => findV A n c Vs x1 x2 W (h.v.bl hb) hn)
  have hring := fndV_ring h hr (x1, x2)
  rw [gr] at HF hring
  have HC := Lib.hid (fun W (hb : Below w.heap.size w W) => cloneV r W (hring.1.below hb) hring.2)
  obtain ⟨⟨i1, i2⟩, ⟨rA, rn, rc, rL⟩, lb, at_⟩ := r
  clear h gr hring hr
  replace HF : RowKit.Hid (∀ W, Below w.heap.size w W → Calls Try.prog 34 #[.slice A n c, .func (.func 35) #[] #[], .agg #[.int .i64 x1, .int .i64 x2]] W fun e w' => e = .returned (.tuple #[.agg #[.int .i64 i1, .int .i64 i2, .slice rA rn rc, .string lb, .int .i64 at_], .bool ok]) ∧ Below W.heap.size W w') := HF
  replace HC : RowKit.Hid (∀ W, Below w.heap.size w W → Calls Try.prog 36 #[.agg #[.int .i64 i1, .int .i64 i2, .slice rA rn rc, .string lb, .int .i64 at_]] W fun e w' => ∃ A' c', e = .returned (.agg #[.int .i64 i1, .int .i64 i2, .slice A' rn c', .string lb, .int .i64 at_]) ∧ Ow W W.heap.size 32 3 (.slice A' rn c') rn (dartsV rL) w') := HC
  show Calls Try.prog 27 #[.agg #[.slice A n c, .slice B m k], .agg #[.int .i64 x1, .int .i64 x2]] w fun e w' => ∃ A' c', e = .returned (.tuple #[.agg #[.int .i64 i1, .int .i64 i2, .slice A' rn c', .string lb, .int .i64 at_], .bool ok]) ∧ Ow w w.heap.size 32 3 (.slice A' rn c') rn (dartsV rL) w'
  go_enter Try.func27, Try.ntmps27
  go_wp2_with fail
  have hx0 : Whole (((w.alloc (.cells #[.slice A n c, .slice B m k] 25)).alloc (.cells #[.int .i64 x1, .int .i64 x2] 30)).alloc (.cells #[.int .i64 0, .int .i64 0, .slice none 0 0, .string { data := #[] }, .int .i64 0] 53)) (w.heap.size) 25 [.slice A n c, .slice B m k] := (((Whole.new_ w 25 [.slice A n c, .slice B m k]).alloc (.cells #[.int .i64 x1, .int .i64 x2] 30)).alloc (.cells #[.int .i64 0, .int .i64 0, .slice none 0 0, .string { data := #[] }, .int .i64 0] 53))
  have hx1 : Whole (((w.alloc (.cells #[.slice A n c, .slice B m k] 25)).alloc (.cells #[.int .i64 x1, .int .i64 x2] 30)).alloc (.cells #[.int .i64 0, .int .i64 0, .slice none 0 0, .string { data := #[] }, .int .i64 0] 53)) (w.heap.size + 1) 30 [.int .i64 x1, .int .i64 x2] := ((Whole.new2 (w := (w.alloc (.cells #[.slice A n c, .slice B m k] 25))) (by simp)).alloc (.cells #[.int .i64 0, .int .i64 0, .slice none 0 0, .string { data := #[] }, .int .i64 0] 53))
  have hx2 : Whole (((w.alloc (.cells #[.slice A n c, .slice B m k] 25)).alloc (.cells #[.int .i64 x1, .int .i64 x2] 30)).alloc (.cells #[.int .i64 0, .int .i64 0, .slice none 0 0, .string { data := #[] }, .int .i64 0] 53)) (w.heap.size + 1 + 1) 53 [.int .i64 0, .int .i64 0, .slice none 0 0, .string { data := #[] }, .int .i64 0] := (Whole.new2 (w := ((w.alloc (.cells #[.slice A n c, .slice B m k] 25)).alloc (.cells #[.int .i64 x1, .int .i64 x2] 30))) (by simp))
  have hbl : Below w.heap.size w (((w.alloc (.cells #[.slice A n c, .slice B m k] 25)).alloc (.cells #[.int .i64 x1, .int .i64 x2] 30)).alloc (.cells #[.int .i64 0, .int .i64 0, .slice none 0 0, .string { data := #[] }, .int .i64 0] 53)) := (bel_al (bel_al (below1 w (.cells #[.slice A n c, .slice B m k] 25)) (.cells #[.int .i64 x1, .int .i64 x2] 30)) (.cells #[.int .i64 0, .int .i64 0, .slice none 0 0, .string { data := #[] }, .int .i64 0] 53))
  have hsz : w.heap.size + 1 + 1 + 1 ≤ ((((w.alloc (.cells #[.slice A n c, .slice B m k] 25)).alloc (.cells #[.int .i64 x1, .int .i64 x2] 30)).alloc (.cells #[.int .i64 0, .int .i64 0, .slice none 0 0, .string { data := #[] }, .int .i64 0] 53))).heap.size := by simp
  obtain ⟨W0, gW0⟩ : ∃ z, (((w.alloc (.cells #[.slice A n c, .slice B m k] 25)).alloc (.cells #[.int .i64 x1, .int .i64 x2] 30)).alloc (.cells #[.int .i64 0, .int .i64 0, .slice none 0 0, .string { data := #[] }, .int .i64 0] 53)) = z := ⟨_, rfl⟩
  rw [gW0] at hx0 hx1 hx2 hbl hsz
  obtain ⟨b2, gb2⟩ : ∃ z, w.heap.size + 1 + 1 = z := ⟨_, rfl⟩
  rw [gb2] at hx2
  obtain ⟨b1, gb1⟩ : ∃ z, w.heap.size + 1 = z := ⟨_, rfl⟩
  rw [gb1] at hx1
  obtain ⟨b0, gb0⟩ : ∃ z, w.heap.size = z := ⟨_, rfl⟩
  rw [gb0] at hx0
  have HX0 := Lib.hid hx0
  have HX1 := Lib.hid hx1
  have HX2 := Lib.hid hx2
  have HB0 := Lib.hid hbl
  have HS0 := Lib.hid hsz
  have Gb0 := Lib.hid gb0
  have Lb0 : RowKit.Hid (w.heap.size ≤ b0) := Lib.hid (by omega)
  have Gb1 := Lib.hid gb1
  have Lb1 : RowKit.Hid (w.heap.size ≤ b1) := Lib.hid (by omega)
  have Gb2 := Lib.hid gb2
  have Lb2 : RowKit.Hid (w.heap.size ≤ b2) := Lib.hid (by omega)
  have N01 : RowKit.Hid (b0 ≠ b1) := Lib.hid (by omega)
  have N02 : RowKit.Hid (b0 ≠ b2) := Lib.hid (by omega)
  have N12 : RowKit.Hid (b1 ≠ b2) := Lib.hid (by omega)
  try rw [gW0, gb2, gb1, gb0]
  clear gW0 hbl hsz hx0 hx1 hx2 gb0 gb1 gb2
  refine (HF.out _ HB0.out).mono ?_
  rintro e W3 ⟨rfl, hb⟩
  have HB3 := Lib.hid (bel_bl HB0.out hb)
  have HX23 := Lib.hid (HX2.out.bl hb)
  clear hb HX2 HX1 HX0 HB0 HF
  go_wp2_with fail
  refine (HC.out _ (bel_al HB3.out _)).mono ?_
  rintro e W4 ⟨A', c', rfl, ho⟩
  have hlt := HX23.out.lt
  have hne := ho.low_ne (g := b2) (by simp; omega)
  have hB4 := bel_bl (bel_al HB3.out (.cells #[.int .i64 i1, .int .i64 i2, .slice rA rn rc, .string lb, .int .i64 at_] 53)) ho.below
  have HX24 := Lib.hid ((HX23.out.alloc (.cells #[.int .i64 i1, .int .i64 i2, .slice rA rn rc, .string lb, .int .i64 at_] 53)).bl ho.below)
  have hO : Ow w w.heap.size 32 3 (.slice A' rn c') rn (dartsV rL) W4 := ⟨own_lo' ho.own (by have := HB3.out.size; simp; omega), hB4, Nat.le_refl _, hB4.size⟩
  have HO := Lib.hid (((((hO.set_far (i := 0) hne Lb2.out (.int .i64 i1)).set_far (i := 1) hne Lb2.out (.int .i64 i2)).set_far (i := 2) hne Lb2.out (.slice A' rn c')).set_far (i := 3) hne Lb2.out (.string lb)).set_far (i := 4) hne Lb2.out (.int .i64 at_))
  have f0 := HX24.out.free 0
  have k0 := HX24.out.cell (i := 0) rfl
  have f1 := HX24.out.free 1
  have k1 := HX24.out.cell (i := 1) rfl
  have f2 := HX24.out.free 2
  have k2 := HX24.out.cell (i := 2) rfl
  have f3 := HX24.out.free 3
  have k3 := HX24.out.cell (i := 3) rfl
  have f4 := HX24.out.free 4
  have k4 := HX24.out.cell (i := 4) rfl
  have HY := Lib.hid (((((HX24.out.set_ 0 (.int .i64 i1)).set_ 1 (.int .i64 i2)).set_ 2 (.slice A' rn c')).set_ 3 (.string lb)).set_ 4 (.int .i64 at_))
  clear hlt hne hB4 hO ho HX23 HX24 HB3 HC
  go_wp2
  exact ret_whole2 rfl b2 rfl rfl HY.out Try.underlying53 rfl (by kernel_rfl) rfl ⟨A', c', rfl, HO.out⟩

end Go.Proofs.Ytkhklhipiiehbaa

/- Darts that were taken away, in numbers: what is found, what stands for a dart now. -/
namespace Go.Proofs.Ytkhklhipiiehbaa
open Go.RowKit
set_option linter.unusedSimpArgs false
set_option linter.unusedVariables false

abbrev Gn := D × D
def gnC (g : Gn) : List Value := [.int .i64 g.1.1, .int .i64 g.1.2.1, .int .i64 g.1.2.2, .int .i64 g.2.1, .int .i64 g.2.2.1, .int .i64 g.2.2.2]
theorem gnC_len (g : Gn) : (gnC g).length = 6 := rfl
theorem gnC_one (g : Gn) : ∀ v ∈ gnC g, v.oneCell' = true := by simp [gnC, Value.oneCell']
def zD : D := (0, 0, 0)
def findG : List Gn → D → D × Bool
  | [], _ => (zD, false)
  | g :: G, d => if g.1 = d then (g.2, true) else findG G d
/-- What stands for d now, in so many steps. -/
def resG (st : D → Bool) (G : List Gn) : Nat → D → D
  | 0, d => if st d = true then d else zD
  | k + 1, d => if st d = true then d else if (findG G d).2 = true then resG st G k (findG G d).1 else zD
theorem resG_self (st : D → Bool) (G : List Gn) (n : Nat) {d : D} (h : st d = true) : resG st G n d = d := by
  cases n <;> simp only [resG, if_pos h]
theorem resG_told (st : D → Bool) (G : List Gn) (n : Nat) {d : D} (h : ¬ st d = true) (ht : (findG G d).2 = true) : resG st G (n + 1) d = resG st G n (findG G d).1 := by
  simp only [resG, if_neg h, if_pos ht]
theorem resG_none (st : D → Bool) (G : List Gn) (n : Nat) {d : D} (h : ¬ st d = true) (ht : ¬ (findG G d).2 = true) : resG st G n d = zD := by
  cases n with
  | zero => simp only [resG, if_neg h]
  | succ n => simp only [resG, if_neg h, if_neg ht]
theorem resG_end (st : D → Bool) (G : List Gn) {d : D} (h : ¬ st d = true) : resG st G 0 d = zD := by simp only [resG, if_neg h]
/-- What is told is there, or zero. -/
theorem resG_there (st : D → Bool) (G : List Gn) : ∀ (n : Nat) (d : D), resG st G n d = zD ∨ st (resG st G n d) = true
  | 0, d => by
    by_cases h : st d = true
    · right; rw [resG_self st G 0 h]; exact h
    · left; exact resG_end st G h
  | n + 1, d => by
    by_cases h : st d = true
    · right; rw [resG_self st G _ h]; exact h
    · by_cases ht : (findG G d).2 = true
      · rw [resG_told st G n h ht]; exact resG_there st G n _
      · left; exact resG_none st G _ h ht
theorem findG_mem : ∀ {G : List Gn} {d : D}, (findG G d).2 = true → (d, (findG G d).1) ∈ G
  | [], _, h => by cases h
  | g :: G, d, h => by
    by_cases e : g.1 = d
    · have e2 : findG (g :: G) d = (g.2, true) := by simp only [findG, if_pos e]
      rw [e2, ← e]
      exact List.mem_cons_self
    · have e2 : findG (g :: G) d = findG G d := by simp only [findG, if_neg e]
      rw [e2] at h ⊢
      exact List.mem_cons_of_mem _ (findG_mem h)
/-- A row of the law's: each one told to be the one ahead of it. -/
def dN (n : Int) : D := (1, n, 0)
def vR (n : Nat) (round : Bool) (k : Int) : D := if k = 2 ∧ round = true then dN (1 + (n : Int)) else dN (k - 1)
def chainG (n : Nat) (round : Bool) : Nat → List Gn
  | 0 => []
  | i + 1 => chainG n round i ++ [(dN (2 + (i : Int)), vR n round (2 + (i : Int)))]
end Go.Proofs.Ytkhklhipiiehbaa
