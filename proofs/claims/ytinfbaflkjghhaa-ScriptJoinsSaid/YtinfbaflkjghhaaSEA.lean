/- Several texts in one. -/
import Derived.WalkKit
import Derived.Deep.Slices
import Derived.Lib.SmallJoins
import Derived.Deep.AppendLies
import Derived.Maps.AppendAt
import Derived.Laws.AppendOwnNone
import Derived.Below
import Derived.Laws.OwnMore
import Derived.Laws.NewBlocks
import Derived.Lib.Hide
import Derived.OrdersHeld
import Derived.Deep.DeepCutAuto
import Derived.LoopTactic
import Derived.Outline
import Derived.Deep.QuietTactic
import Derived.BigQuiet
import Derived.IntWalk
import Derived.Laws.Rows
import Derived.Deep.WholeRow
import Derived.Great.Walk
import Derived.Laws.Tables
import Derived.Deep.MidRow
import Derived.RangeFuncNested
import Derived.RangeFuncBound
import Derived.RangeFuncCalls
import Derived.RangeFuncLeaves
import Derived.OwnWalkIn
import Derived.Test.YtinfbaflkjghhaaProg
import Derived.WalkSpells
import Derived.WalkLawsBesides
import Derived.Deep.RegionHeld3
import Derived.KernelRfl
import Derived.Laws.MakeOwn
import Derived.Laws.Strings
import Derived.Lib.SliceRun
import Derived.ProofKit
import Derived.Carry
import Derived.WideKeyArgs
import Derived.OpenShut
import Derived.Laws.CopyOwn
/- Words for all layers, in one text. -/
set_option linter.unusedSimpArgs false
set_option linter.unusedVariables false
namespace Go.Proofs.Ytinfbaflkjghhaa
open Go.RowKit
def u8v (x : Int) : Value := .int .u8 x
def bytesV (bs : List Int) : List Value := bs.map u8v
/-- The slice value of address A, length n, capacity c holds the cells xs, and lies below block B. -/
structure RdS (w : World) (B size : Nat) (A : Option Addr) (n c : Nat) (xs : List Value) : Prop where
  len : xs.length = n * size
  none_ : A = none → n = 0 ∧ c = 0
  le : n ≤ c
  low : ∀ a, A = some a → 0 < n → a.block < B
  cell : ∀ a, A = some a → ∀ j u, xs[j]? = some u → w.cell? (a.add j) = some u
theorem add_block (a : Addr) (n : Nat) : (a.add n).block = a.block := by unfold Addr.add; split <;> rfl
theorem RdS.pos {w : World} {B size n c : Nat} {A : Option Addr} {xs : List Value} (h : RdS w B size A n c xs) {j : Nat} {u : Value} (hu : xs[j]? = some u) : 0 < n := by
  have h1 : j < xs.length := by
    rcases Nat.lt_or_ge j xs.length with h1 | h1
    · exact h1
    · rw [List.getElem?_eq_none h1] at hu
      cases hu
  rcases Nat.eq_zero_or_pos n with h0 | h0
  · rw [h.len, h0] at h1
    omega
  · exact h0
theorem RdS.keep {w w' : World} {B size n c : Nat} {A : Option Addr} {xs : List Value} (h : RdS w B size A n c xs) (hk : ∀ p : Addr, p.block < B → w'.cell? p = w.cell? p) : RdS w' B size A n c xs :=
  ⟨h.len, h.none_, h.le, h.low, fun a ha j u hu => (hk _ (by rw [add_block]; exact h.low a ha (h.pos hu))).trans (h.cell a ha j u hu)⟩
theorem RdS.below {w w' : World} {B size n c : Nat} {A : Option Addr} {xs : List Value} (h : RdS w B size A n c xs) (hb : Below B w w') : RdS w' B size A n c xs := h.keep fun _ hp => hb.cell hp
theorem RdS.up {w w' : World} {B B' size n c : Nat} {A : Option Addr} {xs : List Value} (h : RdS w B size A n c xs) (hb : Below B w w') (hB : B ≤ B') : RdS w' B' size A n c xs :=
  have h' := h.below hb
  ⟨h'.len, h'.none_, h'.le, fun a ha hn => Nat.lt_of_lt_of_le (h'.low a ha hn) hB, h'.cell⟩
/-- A row of the call's own reads as what it holds. -/
theorem RdS.of_own {w : World} {base size n : Nat} {e : TypeId} {v : Value} {xs : List Value} (h : w.ownsRow base e size v n xs) : ∃ A c, v = .slice A n c ∧ RdS w w.heap.size size A n c xs := by
  rcases h.2 with ⟨rfl, rfl⟩ | ⟨g, cap, cur, rfl, hb, hg, hnc, hcm, hcs, ht⟩
  · exact ⟨none, 0, rfl, ⟨h.1, fun _ => ⟨rfl, rfl⟩, Nat.le_refl _, fun a ha => (by cases ha), fun a ha => (by cases ha)⟩⟩
  · refine ⟨_, cap, rfl, ⟨h.1, fun e => (by cases e), hnc, fun a ha _ => ?_, fun a ha j u hu => ?_⟩⟩
    · obtain rfl := Option.some.inj ha
      exact (h.lt g rfl).2
    · obtain rfl := Option.some.inj ha
      exact h.cells (g := g) rfl j u hu
/-- A new block reads as the slice over all of it. -/
theorem RdS.of_new {cs : Array Value} {t : TypeId} (w : World) {n size : Nat} (hn : cs.toList.length = n * size) : RdS (w.alloc (.cells cs t)) (w.heap.size + 1) size (some ⟨w.heap.size, 0, none⟩) n n cs.toList :=
  ⟨hn, fun e => (by cases e), Nat.le_refl _, fun a ha _ => (by obtain rfl := Option.some.inj ha; simp), fun a ha => (by obtain rfl := Option.some.inj ha; exact World.news_of_block (fr := (0, 0)) (heap_alloc_new w _))⟩
theorem RdS.new_ {w : World} {cs : Array Value} {t : TypeId} {n size g B : Nat} {xs : List Value} (hg : g = w.heap.size) (hB : g < B) (hx : xs = cs.toList) (hn : xs.length = n * size) : RdS (w.alloc (.cells cs t)) B size (some ⟨g, 0, none⟩) n n xs := by
  subst hg hx
  have h := RdS.of_new (t := t) w hn
  exact ⟨h.len, h.none_, h.le, fun a ha _ => (by obtain rfl := Option.some.inj ha; exact hB), h.cell⟩
/-- A new block is a row of the call's own, all of it. -/
theorem own_new {w : World} {e : TypeId} {base size g n : Nat} {cs : Array Value} {xs : List Value} (hg : g = w.heap.size) (hb : base ≤ g) (hm : n ≤ maxLen) (hs : cs.size = n * size) (hx : xs = cs.toList) :
    (w.alloc (.cells cs e)).ownsRow base e size (.slice (some ⟨g, 0, none⟩) n n) n xs := by
  subst hg hx
  exact World.ownsRow_lit w cs n hb hm hs
theorem wpList_append_rds {P : Program} {w : World} {ops : Array Oper} {rest : List Oper} {o : Oper} {a : Act} {Q : Exit → Act → World → Prop} (hgd : o.guard = none) (s x : Operand) (t : TypeId)
    (ho : o.op = .call { callee := .builtin .append, args := #[s, x], argTypes := #[t, t] })
    (base : Nat) (e : TypeId) (i : TypeInfo) (z : Value) (size bytes : Nat) (ht : P.underlying t = some (.slice e)) (hi : P.info? e = some i) (hz : i.zero = some z)
    (hsize : i.size = size) (hby : i.bytes = bytes) (hzs : z.cells.size = size) (hsz : 0 < size)
    (v : Value) (n : Nat) (xs : List Value) (hs : a.eval s = v) (hown : w.ownsRow base e size v n xs)
    (B : Nat) (A : Option Addr) (m c : Nat) (news : List Value) (hx : a.eval x = .slice A m c) (hr : RdS w B size A m c news) (h1 : ∀ u ∈ news, u.oneCell' = true)
    (h63 : n + m ≤ maxLen) (hbytes : (n + m) * bytes ≤ 140737488355328) (hbase : base ≤ w.heap.size)
    (h : ∀ v' w', w'.ownsRow base e size v' (n + m) (xs ++ news) → w.grownBy w' v.ownBlock → (v'.ownBlock = v.ownBlock ∨ v'.ownBlock = some w.heap.size) → wpList P ops Q rest (a.put o.dst v') w') :
    wpList P ops Q (o :: rest) a w := by
  cases A with
  | none =>
    obtain ⟨rfl, rfl⟩ := hr.none_ rfl
    have hnil : news = [] := List.eq_nil_of_length_eq_zero (by simpa using hr.len)
    subst hnil
    exact wpList_append_own_none hgd s x t ho base e i size ht hi v n xs hs hown hx (h v w (by simpa using hown) (World.grownBy.refl w _) (.inl rfl))
  | some ad =>
    exact wpList_append_own_at w hgd s x t ho base e i z size bytes ht hi hz hsize hby hzs hsz v n xs hs hown ad m c news hx hr.len (hr.cell ad rfl) h1 h63 hbytes hbase fun v' w' a1 a2 _ a4 => h v' w' a1 a2 a4
/-- The string of these bytes. -/
def strB (bs : List Int) : ByteArray := bs.foldl (fun r n => r.push (UInt8.ofNat n.toNat)) ByteArray.empty
theorem conv_rds {P : Program} {w : World} {B n c : Nat} {A : Option Addr} {bs : List Int} {src dst e : TypeId} (hs : P.underlying src = some (.slice e)) (he : P.underlying e = some (.int .u8)) (hd : P.underlying dst = some .string)
    (h : RdS w B 1 A n c (bytesV bs)) : (convert src dst (.slice A n c)).run P w = .ok (.string (strB bs)) w := by
  have hl : bs.length = n := by simpa [bytesV] using h.len
  cases A with
  | none =>
    obtain ⟨rfl, rfl⟩ := h.none_ rfl
    obtain rfl : bs = [] := List.eq_nil_of_length_eq_zero hl
    exact run_convert_bytes_nil w src e hs he 0 0 dst hd
  | some a =>
    rw [run_convert_bytes_string w src dst e (some a) n c hs he hd]
    have hld := run_loadCells_list (P := P) w a (bytesV bs) (fun j v hj => h.cell a rfl j v hj)
    have hlen : (bytesV bs).length = n := by simp [bytesV, hl]
    rw [hlen] at hld
    exact run_bytesToString w a n c bs hld
end Go.Proofs.Ytinfbaflkjghhaa
/- Words for memory: a block known whole; what a call that writes to some blocks leaves as it was. -/
namespace Go.Proofs.Ytinfbaflkjghhaa
open Go.RowKit
/-- Block g is just the cells cs of element type t. -/
def Whole (w : World) (g : Nat) (t : TypeId) (cs : List Value) : Prop := w.heap[g]? = some (.cells cs.toArray t (0, 0))
section
variable {w w' : World} {g : Nat} {t : TypeId} {cs : List Value}
theorem Whole.lt (h : Whole w g t cs) : g < w.heap.size := (Array.getElem?_eq_some_iff.1 h).1
theorem Whole.cell (h : Whole w g t cs) {i : Nat} {v : Value} (hv : cs[i]? = some v) : w.cell? ⟨g, i, none⟩ = some v := by
  rw [cell_of_row w g i _ t (0, 0) h, List.getElem?_toArray, hv]
theorem Whole.free (h : Whole w g t cs) (i : Nat) : w.frozen? ⟨g, i, none⟩ = false := frozen_of_row w g i _ t h
theorem Whole.new_ (w : World) (t : TypeId) (cs : List Value) : Whole (w.alloc (.cells cs.toArray t)) w.heap.size t cs := heap_alloc_new w _
theorem Whole.new2 {w : World} {g : Nat} {t : TypeId} {cs : List Value} (hg : g = w.heap.size) : Whole (w.alloc (.cells cs.toArray t)) g t cs := by
  subst hg
  exact Whole.new_ w t cs
theorem Whole.alloc (h : Whole w g t cs) (o : Obj) : Whole (w.alloc o) g t cs := (Below.heap_alloc w o g h.lt).trans h
theorem Whole.drew (h : Whole w g t cs) : Whole w.drew g t cs := h
theorem Whole.set_ (h : Whole w g t cs) (i : Nat) (u : Value) : Whole (w.setCell ⟨g, i, none⟩ u) g t (cs.set i u) := by
  unfold Whole at h ⊢
  simp [World.setCell, Array.getElem?_modify, h]
theorem Whole.far (h : Whole w g t cs) {p : Addr} (hp : g ≠ p.block) (u : Value) : Whole (w.setCell p u) g t cs := (Below.heap_setCell w p u g hp).trans h
theorem Whole.at_ (h : Whole w g t cs) (hb : w'.heap[g]? = w.heap[g]?) : Whole w' g t cs := hb.trans h
theorem Whole.below (h : Whole w g t cs) (hb : Below w.heap.size w w') : Whole w' g t cs := h.at_ (hb.block g h.lt)
theorem Whole.ne_ {g' : Nat} {t' : TypeId} {cs' : List Value} (h : Whole w g t cs) (h' : Whole w g' t' cs') (hne : t ≠ t') : g ≠ g' := by
  rintro rfl
  unfold Whole at h h'
  rw [h] at h'
  injection h' with h'
  injection h' with _ ht
  exact hne ht
end
/-- Of the blocks that were there those outside S are as they were. -/
structure Kept (S : Nat → Prop) (w w' : World) : Prop where
  os : w'.os = w.os
  tape : w'.tape = w.tape
  output : w'.output = w.output
  size : w.heap.size ≤ w'.heap.size
  block : ∀ i, i < w.heap.size → ¬ S i → w'.heap[i]? = w.heap[i]?
theorem Kept.refl (S : Nat → Prop) (w : World) : Kept S w w := ⟨rfl, rfl, rfl, Nat.le_refl _, fun _ _ _ => rfl⟩
theorem Kept.trans {S : Nat → Prop} {a b c : World} (h : Kept S a b) (k : Kept S b c) : Kept S a c :=
  ⟨k.os.trans h.os, k.tape.trans h.tape, k.output.trans h.output, Nat.le_trans h.size k.size, fun i hi hn => (k.block i (Nat.lt_of_lt_of_le hi h.size) hn).trans (h.block i hi hn)⟩
theorem Kept.wider {S T : Nat → Prop} {a b : World} (h : Kept S a b) (hS : ∀ i, i < a.heap.size → S i → T i) : Kept T a b :=
  ⟨h.os, h.tape, h.output, h.size, fun i hi hn => h.block i hi (fun hs => hn (hS i hi hs))⟩
theorem Kept.of_below {S : Nat → Prop} {a b : World} (h : Below a.heap.size a b) : Kept S a b := ⟨h.os, h.tape, h.output, h.size, fun i hi _ => h.block i hi⟩
theorem Kept.below {S : Nat → Prop} {a b : World} {B : Nat} (h : Kept S a b) (hB : B ≤ a.heap.size) (hS : ∀ i, i < B → ¬ S i) : Below B a b := ⟨h.os, h.tape, h.output, h.size, fun i hi => h.block i (by omega) (hS i hi)⟩
theorem Kept.drew {S : Nat → Prop} {a b : World} (h : Kept S a b) : Kept S a b.drew := ⟨h.os, h.tape, h.output, h.size, h.block⟩
theorem Kept.alloc {S : Nat → Prop} {a b : World} (h : Kept S a b) (o : Obj) : Kept S a (b.alloc o) :=
  h.trans ⟨rfl, rfl, rfl, by simp, fun i hi _ => Below.heap_alloc _ _ _ hi⟩
theorem Kept.setCell {S : Nat → Prop} {a b : World} (h : Kept S a b) {p : Addr} (hp : S p.block ∨ a.heap.size ≤ p.block) (u : Value) : Kept S a (b.setCell p u) :=
  ⟨h.os, h.tape, h.output, by simpa [World.setCell] using h.size, fun i hi hn => (Below.heap_setCell _ _ _ _ (by
    rintro rfl
    rcases hp with hp | hp
    · exact hn hp
    · omega)).trans (h.block i hi hn)⟩
theorem Kept.cell {S : Nat → Prop} {w w' : World} (h : Kept S w w') {p : Addr} {v : Value} (hc : w.cell? p = some v) (hn : ¬ S p.block) : w'.cell? p = some v :=
  (World.cell?_of_block (w := w) (h.block p.block (World.block_lt_of_cell? w p hc) hn)).trans hc
theorem Kept.whole {S : Nat → Prop} {w w' : World} {g : Nat} {t : TypeId} {cs : List Value} (h : Kept S w w') (hg : Whole w g t cs) (hn : ¬ S g) : Whole w' g t cs :=
  hg.at_ (h.block g hg.lt hn)
end Go.Proofs.Ytinfbaflkjghhaa
/- A region that draws its order, whose operations read, or call what answers the same in every later world and only makes new memory: it may be walked in one order. -/
namespace Go.Proofs.Ytinfbaflkjghhaa
open Go.RowKit
/-- w' is w with new blocks: nothing that was there has turned. -/
def Ext (w w' : World) : Prop := Below w.heap.size w w'
theorem Ext.refl (w : World) : Ext w w := Below.refl _ _
theorem Ext.trans {a b c : World} (h : Ext a b) (k : Ext b c) : Ext a c := Below.trans h (Below.mono k (Below.size h))
theorem Ext.cell {w w' : World} (h : Ext w w') {p : Addr} {v : Value} (hc : w.cell? p = some v) : w'.cell? p = some v := (Below.cell h (World.block_lt_of_cell? w p hc)).trans hc
section
variable {P : Program} {ops : Array Oper} {Q : Exit → Act → World → Prop} {md : Region.Mode}
/-- What an operation comes to: the value v, and a world that has only grown. -/
def Outcome (P : Program) (v : Value) (w : World) : Result Next → Prop
  | .ok (.value u) w' => u = v ∧ Ext w w'
  | .ok (.enter f args) w' => Calls P f args w' fun e w'' => e = .returned v ∧ Ext w w''
  | _ => False
/-- In state a, in w and in every world that w grows to, operation o yields v and only makes new memory. -/
def YieldsK (P : Program) (ops : Array Oper) (o : Oper) (v : Value) (a : Act) (w : World) : Prop :=
  (Region.wanted o (yielded ops a.tmps) = true ∧ ∀ w', Ext w w' → Outcome P v w' ((execOp a.eval o).run P w')) ∨
  (Region.wanted o (yielded ops a.tmps) = false ∧ v = undef)
theorem YieldsK.up {o : Oper} {v : Value} {a : Act} {w w' : World} (h : YieldsK P ops o v a w) (hw : Ext w w') : YieldsK P ops o v a w' :=
  match h with
  | .inl ⟨h1, h2⟩ => .inl ⟨h1, fun w'' h' => h2 w'' (hw.trans h')⟩
  | .inr h2 => .inr h2
theorem YieldsK.same {o : Oper} {v : Value} {a a' : Act} {w : World} (hy : YieldsK P ops o v a w) (he : execOp a'.eval o = execOp a.eval o)
    (hw : Region.wanted o (yielded ops a'.tmps) = Region.wanted o (yielded ops a.tmps)) : YieldsK P ops o v a' w := by
  unfold YieldsK at *
  rw [he, hw]
  exact hy
theorem YieldsK.wpOp {i : Nat} {o : Oper} {v : Value} {a : Act} {w : World} (hi : ops[i]? = some o) (hy : YieldsK P ops o v a w)
    {K : Act → World → Prop} (h : ∀ w', Ext w w' → K (a.put o.dst v) w') : wpOp P ops Q i K a w := by
  unfold Go.wpOp
  simp only [hi]
  rcases hy with ⟨hw, hv⟩ | ⟨hw, rfl⟩
  · simp only [hw, if_true]
    refine .inl ?_
    have h1 := hv w (Ext.refl w)
    unfold Oper.wp
    generalize (execOp a.eval o).run P w = r at *
    cases r with
    | ok n w' =>
      cases n with
      | value u =>
        obtain ⟨rfl, he⟩ := h1
        exact h _ he
      | enter f args =>
        refine Calls.mono h1 fun e w'' he => ?_
        obtain ⟨rfl, hx⟩ := he
        exact h _ hx
      | _ => exact h1.elim
    | halt x w' => exact h1.elim
  · simp only [hw, Bool.false_eq_true, if_false]
    exact h _ (Ext.refl _)
/-- The state is as a's in all that o looks at. -/
def Alike (ops : Array Oper) (o : Oper) (a a' : Act) : Prop := execOp a'.eval o = execOp a.eval o ∧ Region.wanted o (yielded ops a'.tmps) = Region.wanted o (yielded ops a.tmps)
/-- An operation oj that is apart from oi does, without oi's value, what it does with it. -/
theorem wpOp_swap {j : Nat} {oi oj : Oper} {v : Value} (hj : ops[j]? = some oj) (hap : oi.apart ops oj = true)
    (hsi : ∀ cs b, oi.op ≠ .select cs b) (hsj : ∀ cs b, oj.op ≠ .select cs b)
    (hQ : ∀ c a w, Q (.panic c) (a.put oi.dst v) w → Q (.panic c) a w) {K : Act → World → Prop} {a : Act} {w : World}
    (h : wpOp P ops Q j K (a.put oi.dst v) w) :
    wpOp P ops Q j (fun a' w' => Alike ops oi a a' ∧ K (a'.put oi.dst v) w') a w := by
  obtain ⟨h1, h2, h3⟩ := Oper.apart_spec hap
  have keep : ∀ (b : Act), Alike ops oi a b → ∀ u, Alike ops oi a (b.put oj.dst u) := fun b hb u =>
    ⟨(execOp_put oi hsi b oj.dst u h3).trans hb.1, (wanted_put oi b oj.dst u h3).trans hb.2⟩
  have k0 : Alike ops oi a a := ⟨rfl, rfl⟩
  have kD : ∀ d, Alike ops oi a { a with defers := d :: a.defers } := fun d => ⟨rfl, rfl⟩
  unfold wpOp at *
  simp only [hj] at *
  rw [wanted_put oj a oi.dst v h1] at h
  split
  · rename_i hw
    simp only [hw, if_true] at h
    rcases h with h | ⟨hasks, hlets⟩
    case inr => exact .inr ⟨by unfold Oper.asks at *; rw [execOp_put oj hsj a oi.dst v h1] at hasks; exact hasks, hlets⟩
    refine .inl ?_
    unfold Oper.wp at *
    rw [execOp_put oj hsj a oi.dst v h1] at h
    generalize (execOp a.eval oj).run P w = r at *
    cases r with
    | ok n w' =>
      cases n <;> simp only [Oper.upon] at h ⊢
      case value u => exact ⟨keep a k0 u, by rw [← Act.put_comm a v u h2]; exact h⟩
      case skip => exact ⟨keep a k0 _, by rw [← Act.put_comm a v undef h2]; exact h⟩
      case defer d =>
        refine ⟨keep _ (kD d) _, ?_⟩
        rw [← Act.put_comm _ v undef h2, ← Act.put_defers]
        exact h
      case enter f args =>
        refine Calls.mono h fun e w'' he => ?_
        cases e with
        | returned u => exact ⟨keep a k0 u, by rw [← Act.put_comm a v u h2]; exact he⟩
        | panicked c => exact hQ _ _ _ he
        | outgrown => exact he
      case row row args => exact Rows.mono h fun u w'' he => ⟨keep a k0 u, by rw [← Act.put_comm a v u h2]; exact he⟩
    | halt x w' =>
      cases x <;> simp only [Oper.upon] at h ⊢
      case panic u => exact hQ _ _ _ h
  · rename_i hw
    simp only [hw] at h
    exact ⟨keep a k0 _, by rw [← Act.put_comm a v undef h2]; exact h⟩
/-- Whatever order is picked from here on, in this world or in one that it has grown to; behind every operation the world has only grown. -/
def wpK (P : Program) (md : Region.Mode) (ops : Array Oper) (Q : Exit → Act → World → Prop) : Nat → Array Bool → Act → World → Prop
  | 0, listed, a, w => Region.ready md ops listed = [] ∧ ∀ w', Ext w w' → Q .normal a w'
  | fuel + 1, listed, a, w =>
    (Region.ready md ops listed = [] → ∀ w', Ext w w' → Q .normal a w') ∧
    ∀ w', Ext w w' → ∀ i ∈ Region.ready md ops listed, wpOp P ops Q i (fun a' w'' => Ext w' w'' ∧ wpK P md ops Q fuel (listed.setIfInBounds i true) a' w'') a w'
theorem wpK.up : ∀ {fuel : Nat} {listed : Array Bool} {a : Act} {w w' : World}, wpK P md ops Q fuel listed a w → Ext w w' → wpK P md ops Q fuel listed a w'
  | 0, _, _, _, _, h, hw => ⟨h.1, fun w'' h' => h.2 w'' (hw.trans h')⟩
  | _ + 1, _, _, _, _, h, hw => ⟨fun h0 w'' h' => h.1 h0 w'' (hw.trans h'), fun w'' h' => h.2 w'' (hw.trans h')⟩
end
end Go.Proofs.Ytinfbaflkjghhaa
/- A region that draws its order, whose operations read, or call what answers the same in every later world; and calls that turn memory, where nothing else is ready beside them: it may be walked in one order. -/
namespace Go.Proofs.Ytinfbaflkjghhaa
open Go.RowKit
theorem Kept.of_ext {S : Nat → Prop} {w w' : World} (h : Ext w w') : Kept S w w' := Kept.of_below h
section
variable {P : Program} {ops : Array Oper} {Q : Exit → Act → World → Prop} {md : Region.Mode} {S : Nat → Prop}
/-- In state a, in w and in every world that w may come to within the region, operation o yields v and only makes new memory. -/
def YieldsR (P : Program) (ops : Array Oper) (S : Nat → Prop) (o : Oper) (v : Value) (a : Act) (w : World) : Prop :=
  (Region.wanted o (yielded ops a.tmps) = true ∧ ∀ w', Kept S w w' → Outcome P v w' ((execOp a.eval o).run P w')) ∨
  (Region.wanted o (yielded ops a.tmps) = false ∧ v = undef)
theorem YieldsR.up {o : Oper} {v : Value} {a : Act} {w w' : World} (h : YieldsR P ops S o v a w) (hw : Kept S w w') : YieldsR P ops S o v a w' :=
  match h with
  | .inl ⟨h1, h2⟩ => .inl ⟨h1, fun w'' h' => h2 w'' (hw.trans h')⟩
  | .inr h2 => .inr h2
theorem YieldsR.same {o : Oper} {v : Value} {a a' : Act} {w : World} (hy : YieldsR P ops S o v a w) (he : execOp a'.eval o = execOp a.eval o)
    (hw : Region.wanted o (yielded ops a'.tmps) = Region.wanted o (yielded ops a.tmps)) : YieldsR P ops S o v a' w := by
  unfold YieldsR at *
  rw [he, hw]
  exact hy
theorem YieldsR.wpOp {i : Nat} {o : Oper} {v : Value} {a : Act} {w : World} (hi : ops[i]? = some o) (hy : YieldsR P ops S o v a w)
    {K : Act → World → Prop} (h : ∀ w', Ext w w' → K (a.put o.dst v) w') : wpOp P ops Q i K a w := by
  unfold Go.wpOp
  simp only [hi]
  rcases hy with ⟨hw, hv⟩ | ⟨hw, rfl⟩
  · simp only [hw, if_true]
    refine .inl ?_
    have h1 := hv w (Kept.refl _ w)
    unfold Oper.wp
    generalize (execOp a.eval o).run P w = r at *
    cases r with
    | ok n w' =>
      cases n with
      | value u =>
        obtain ⟨rfl, he⟩ := h1
        exact h _ he
      | enter f args =>
        refine Calls.mono h1 fun e w'' he => ?_
        obtain ⟨rfl, hx⟩ := he
        exact h _ hx
      | _ => exact h1.elim
    | halt x w' => exact h1.elim
  · simp only [hw, Bool.false_eq_true, if_false]
    exact h _ (Ext.refl _)
/-- Whatever order is picked from here on, in this world or in one that it has grown to; behind every operation only what S lets has turned. -/
def wpR (P : Program) (md : Region.Mode) (ops : Array Oper) (S : Nat → Prop) (Q : Exit → Act → World → Prop) : Nat → Array Bool → Act → World → Prop
  | 0, listed, a, w => Region.ready md ops listed = [] ∧ ∀ w', Ext w w' → Q .normal a w'
  | fuel + 1, listed, a, w =>
    (Region.ready md ops listed = [] → ∀ w', Ext w w' → Q .normal a w') ∧
    ∀ w', Ext w w' → ∀ i ∈ Region.ready md ops listed, wpOp P ops Q i (fun a' w'' => Kept S w' w'' ∧ wpR P md ops S Q fuel (listed.setIfInBounds i true) a' w'') a w'
theorem wpR.up : ∀ {fuel : Nat} {listed : Array Bool} {a : Act} {w w' : World}, wpR P md ops S Q fuel listed a w → Ext w w' → wpR P md ops S Q fuel listed a w'
  | 0, _, _, _, _, h, hw => ⟨h.1, fun w'' h' => h.2 w'' (hw.trans h')⟩
  | _ + 1, _, _, _, _, h, hw => ⟨fun h0 w'' h' => h.1 h0 w'' (hw.trans h'), fun w'' h' => h.2 w'' (hw.trans h')⟩
theorem wpAny_of_R : ∀ (fuel : Nat) (listed : Array Bool) (a : Act) (w : World), wpR P md ops S Q fuel listed a w → wpAny P md ops Q fuel listed a w
  | 0, _, _, w, h => ⟨h.1, h.2 w (Ext.refl w)⟩
  | fuel + 1, _, _, w, h => ⟨fun h0 => h.1 h0 w (Ext.refl w), fun i hi => wpOp_mono (fun a' w' h' => wpAny_of_R fuel _ a' w' h'.2) (h.2 w (Ext.refl w) i hi)⟩
theorem wpR_first {i : Nat} {oi : Oper} {v : Value} (hi : ops[i]? = some oi) (hsel : ∀ (j : Nat) (o : Oper) cs b, ops[j]? = some o → o.op ≠ .select cs b)
    (hQ : ∀ c a w, Q (.panic c) (a.put oi.dst v) w → Q (.panic c) a w) :
    ∀ (fuel : Nat) (listed : Array Bool) (a : Act) (w : World),
      (∀ j oj, ops[j]? = some oj → j ≠ i → listed.getD j true = false → (∀ e ∈ oj.after, Region.binds md e = true → e.on ≠ i) → oi.apart ops oj = true) →
      i ∈ Region.ready md ops listed → YieldsR P ops S oi v a w →
      wpR P md ops S Q fuel (listed.setIfInBounds i true) (a.put oi.dst v) w → wpR P md ops S Q (fuel + 1) listed a w := by
  intro fuel
  induction fuel with
  | zero =>
    intro listed a w _ hr hy H
    refine ⟨fun h => (by rw [h] at hr; cases hr), fun w1 hw1 j hj => ?_⟩
    by_cases hji : j = i
    · subst hji
      exact (hy.up (Kept.of_ext hw1)).wpOp hi fun w2 hw2 => ⟨Kept.of_ext hw2, H.up (hw1.trans hw2)⟩
    · have := ready_mono hj hji
      rw [H.1] at this
      cases this
  | succ fuel ih =>
    intro listed a w hfree hr hy H
    refine ⟨fun h => (by rw [h] at hr; cases hr), fun w1 hw1 j hj => ?_⟩
    by_cases hji : j = i
    · subst hji
      exact (hy.up (Kept.of_ext hw1)).wpOp hi fun w2 hw2 => ⟨Kept.of_ext hw2, H.up (hw1.trans hw2)⟩
    · have h1 := H.2 w1 hw1 j (ready_mono hj hji)
      obtain ⟨hjun, oj, hoj, hall⟩ := mem_ready.1 hj
      have hnot : ∀ e ∈ oj.after, Region.binds md e = true → e.on ≠ i := fun e he hb heq => by
        have h1 := hall e he hb
        have h0 := (mem_ready.1 hr).1
        rw [heq] at h1
        rcases Nat.lt_or_ge i listed.size with h' | h'
        · simp [h'] at h0 h1
          rw [h0] at h1
          cases h1
        · simp [Array.getElem?_eq_none h'] at h1
      have h2 := wpOp_swap hoj (hfree j oj hoj hji hjun hnot) (fun cs b => hsel i oi cs b hi) (fun cs b => hsel j oj cs b hoj) hQ h1
      have hfree' : ∀ k ok, ops[k]? = some ok → k ≠ i → (listed.setIfInBounds j true).getD k true = false →
          (∀ e ∈ ok.after, Region.binds md e = true → e.on ≠ i) → oi.apart ops ok = true := fun k ok hk hki hun hno => by
        refine hfree k ok hk hki ?_ hno
        by_cases hjk : j = k
        · subst hjk
          exact hjun
        · rw [getD_set_ne true hjk] at hun
          exact hun
      refine wpOp_mono (fun a' w' h3 => ⟨h3.2.1, ih (listed.setIfInBounds j true) a' w' hfree' (ready_mono hr (Ne.symm hji)) ?_ ?_⟩) h2
      · exact (hy.up ((Kept.of_ext hw1).trans h3.2.1)).same h3.1.1 h3.1.2
      · rw [Array.setIfInBounds_comm _ _ hji]
        exact h3.2.2
/-- Take operation number i next, whose value is the same in every later world: 'apply Exists.intro; apply And.intro' behind it. -/
theorem wpR_next (i : Nat) (d : Option Tmp) {oi : Oper} {fuel : Nat} {listed : Array Bool} {a : Act} {w : World} (hi : ops[i]? = some oi) (hd : oi.dst = d)
    (hs : Region.noSelect ops = true) (hf : Region.free md ops listed i = true) (hr : (Region.ready md ops listed).contains i = true)
    (hQ : ∀ v c a w, Q (.panic c) (a.put d v) w → Q (.panic c) a w)
    (h : ∃ v, YieldsR P ops S oi v a w ∧ wpR P md ops S Q fuel (listed.setIfInBounds i true) (a.put d v) w) : wpR P md ops S Q (fuel + 1) listed a w := by
  subst hd
  obtain ⟨v, hy, hk⟩ := h
  exact wpR_first hi (Region.noSelect_spec hs) (hQ v) fuel listed a w (Region.free_spec hi hf) (by simpa using hr) hy hk
/-- Take operation number i, the only one that is ready, a call: whatever it does. -/
theorem wpR_call (i : Nat) (d : Option Tmp) {oi : Oper} {fuel : Nat} {listed : Array Bool} {a : Act} {w : World} {f : FuncId} {args : Array Value} (hi : ops[i]? = some oi) (hd : oi.dst = d)
    (hr : Region.ready md ops listed = [i]) (hw : Region.wanted oi (yielded ops a.tmps) = true)
    (he : ∀ w', (execOp a.eval oi).run P w' = .ok (.enter f args) w')
    (h : ∀ w', Ext w w' → Calls P f args w' fun e w'' => ∃ v, e = .returned v ∧ Kept S w' w'' ∧ wpR P md ops S Q fuel (listed.setIfInBounds i true) (a.put d v) w'') : wpR P md ops S Q (fuel + 1) listed a w := by
  subst hd
  refine ⟨fun h0 => (by rw [h0] at hr; cases hr), fun w1 hw1 j hj => ?_⟩
  rw [hr] at hj
  obtain rfl := List.mem_singleton.1 hj
  unfold Go.wpOp
  simp only [hi, hw, if_true]
  refine .inl ?_
  unfold Oper.wp
  rw [he w1]
  refine Calls.mono (h w1 hw1) fun e w'' hx => ?_
  obtain ⟨v, rfl, hk, hn⟩ := hx
  exact ⟨hk, hn⟩
/-- Take operation number i, the only one that is ready, whatever it does: by the laws of operations. -/
theorem wpR_only (i : Nat) {oi : Oper} {fuel : Nat} {listed : Array Bool} {a : Act} {w : World} (hi : ops[i]? = some oi)
    (hr : Region.ready md ops listed = [i]) (hw : Region.wanted oi (yielded ops a.tmps) = true)
    (h : ∀ w', Ext w w' → Oper.wp P oi a w' (fun a' w'' => Kept S w' w'' ∧ wpR P md ops S Q fuel (listed.setIfInBounds i true) a' w'') Q) : wpR P md ops S Q (fuel + 1) listed a w := by
  refine ⟨fun h0 => (by rw [h0] at hr; cases hr), fun w1 hw1 j hj => ?_⟩
  rw [hr] at hj
  obtain rfl := List.mem_singleton.1 hj
  unfold Go.wpOp
  simp only [hi, hw, if_true]
  exact .inl (h w1 hw1)
theorem exec_append {ev : Operand → Value} {o : Oper} {w w' : World} {s x : Operand} {t : TypeId} {v u v' : Value} (ho : o.op = .call { callee := .builtin .append, args := #[s, x], argTypes := #[t, t] })
    (hs : ev s = v) (hx : ev x = u) (hrun : (Builtin.append_ #[t, t] o.type #[v, u]).run P w = .ok v' w') : (execOp ev o).run P w = .ok (.value v') w' := by
  unfold execOp
  simp only [ho, resolve, invoke, builtin, Sem.run_bind, Sem.run_pure, Result.andThen_ok, List.map_toArray, List.map_cons, List.map_nil, hs, hx, hrun]
theorem wpR_done {listed : Array Bool} {a : Act} {w : World} (hr : Region.ready md ops listed = []) (h : ∀ w', Ext w w' → Q .normal a w') : ∀ fuel, wpR P md ops S Q fuel listed a w
  | 0 => ⟨hr, h⟩
  | _ + 1 => ⟨fun _ => h, by rw [hr]; simp⟩
/-- The beginning. -/
theorem wp_region_reg (S : Nat → Prop) {id : Nat} {a : Act} {w : World} (hm : P.follows .mixedOrders = true)
    (h : wpR P .any ops S Q ops.size (Array.replicate ops.size false) a w.drew) : (Code.region id ops true).wp P Q a w :=
  wp_region_any hm (wpAny_of_R _ _ _ _ h)
/-- An operation that is not wanted. -/
theorem yr_skip {o : Oper} {a : Act} {w : World} (h : Region.wanted o (yielded ops a.tmps) = false) : YieldsR P ops S o undef a w := .inr ⟨h, rfl⟩
/-- An operation that reads. -/
theorem yr_run {o : Oper} {v : Value} {a : Act} {w : World} (h : Region.wanted o (yielded ops a.tmps) = true) (hr : ∀ w', Kept S w w' → (execOp a.eval o).run P w' = .ok (.value v) w') : YieldsR P ops S o v a w :=
  .inl ⟨h, fun w' hw => by rw [hr w' hw]; exact ⟨rfl, Ext.refl _⟩⟩
/-- A call. -/
theorem yr_call {o : Oper} {v : Value} {a : Act} {w : World} {f : FuncId} {args : Array Value} (h : Region.wanted o (yielded ops a.tmps) = true)
    (hr : ∀ w', (execOp a.eval o).run P w' = .ok (.enter f args) w') (hc : ∀ w', Kept S w w' → Calls P f args w' fun e w'' => e = .returned v ∧ Below w'.heap.size w' w'') : YieldsR P ops S o v a w :=
  .inl ⟨h, fun w' hw => by rw [hr w']; exact hc w' hw⟩
end
end Go.Proofs.Ytinfbaflkjghhaa
/- A drawn region with stores. -/
namespace Go.Proofs.Ytinfbaflkjghhaa
open Go.RowKit
section
variable {P : Program} {md : Region.Mode} {ops : Array Oper} {S : Nat → Prop} {Q : Exit → Act → World → Prop}
/-- Take operation number i, the only one that is ready, a store. -/
theorem wpR_store (i : Nat) {oi : Oper} {fuel : Nat} {listed : Array Bool} {a : Act} {w : World} (hi : ops[i]? = some oi) (hd : oi.dst = none)
    (hr : Region.ready md ops listed = [i]) (hw : Region.wanted oi (yielded ops a.tmps) = true)
    (h : ∀ w', Ext w w' → ∃ w'', (execOp a.eval oi).run P w' = .ok .skip w'' ∧ Kept S w' w'' ∧ wpR P md ops S Q fuel (listed.setIfInBounds i true) a w'') : wpR P md ops S Q (fuel + 1) listed a w := by
  refine wpR_only i hi hr hw fun w' hx => ?_
  obtain ⟨w'', h1, h2, h3⟩ := h w' hx
  unfold Oper.wp
  rw [h1]
  refine ⟨h2, ?_⟩
  rw [hd]
  exact h3
end
end Go.Proofs.Ytinfbaflkjghhaa
/- In a drawn region: the load of a whole block. -/
namespace Go.Proofs.Ytinfbaflkjghhaa
open Go.RowKit
def Nil_ (_ : Nat) : Prop := False
theorem Kept.nil_cell {w w' : World} (h : Kept Nil_ w w') {p : Addr} {v : Value} (hc : w.cell? p = some v) : w'.cell? p = some v := h.cell hc (fun e => e)
theorem load_row_run {P : Program} {ev : Operand → Value} {o : Oper} {w : World} (ty : TypeId) (x : Operand) (ho : o.op = .load ty x)
    (g : Nat) (hx : ev x = .pointer (some ⟨g, 0, none⟩)) (t : TypeId) (cs : List Value) (d : TypeDesc) (hg : Whole w g t cs)
    (hu : P.underlying ty = some d) (hd : (match d with | .struct _ | .array _ _ => true | _ => false) = true) (hi : (P.info? ty).map (·.size) = some cs.length) :
    (execOp ev o).run P w = .ok (.value (.agg cs.toArray)) w := by
  have h1 : (Instr.loadAt ty (ev x)).run P w = .ok (.agg cs.toArray) w := by
    rw [hx]
    simp only [Instr.loadAt, Instr.sureAddr, Sem.run_bind, Sem.run_pure, Result.andThen]
    exact run_loadVar_row w g t ty cs.toArray (0, 0) d hg hu hd (by simpa using hi)
  unfold execOp
  simp only [ho, Sem.run_bind, Sem.run_pure, Result.andThen_ok, h1]
theorem exec_binop_agg {P : Program} {ev : Operand → Value} {o : Oper} {w : World} (op : BinOp) (t : TypeId) (x y : Operand) (t' : TypeId) (ho : o.op = .binOp op t x y t') {xs ys : Array Value} {v : Value}
    (hx : ev x = .agg xs) (hy : ev y = .agg ys) (hm : P.eqGuardType P.depth t = false) (hb : (binOp op t (.agg xs) (.agg ys)).run P w = .ok v w) : (execOp ev o).run P w = .ok (.value v) w := by
  unfold execOp
  simp only [ho, Sem.run_bind, Sem.run_pure, Result.andThen_ok, hx, hy, run_eqGuard_agg (w := w) op t x y xs ys hm, hb]
section
variable {P : Program} {ops : Array Oper} {S : Nat → Prop}
theorem yr_load {o : Oper} {a : Act} {w : World} (h : Region.wanted o (yielded ops a.tmps) = true) (ty : TypeId) (x : Operand) (ho : o.op = .load ty x)
    (g : Nat) (hx : a.eval x = .pointer (some ⟨g, 0, none⟩)) (t : TypeId) (cs : List Value) (d : TypeDesc) (hg : ∀ w', Kept S w w' → Whole w' g t cs)
    (hu : P.underlying ty = some d) (hd : (match d with | .struct _ | .array _ _ => true | _ => false) = true) (hi : (P.info? ty).map (·.size) = some cs.length) :
    YieldsR P ops S o (.agg cs.toArray) a w :=
  yr_run h fun w' hw => load_row_run ty x ho g hx t cs d (hg w' hw) hu hd hi
end
/-! A region that does not draw, operation by operation. -/
section
variable {P : Program} {ops : Array Oper} {rest : List Oper} {o : Oper} {a : Act} {w : World} {Q : Exit → Act → World → Prop}
theorem wl_run (d : Option Tmp) (hd : o.dst = d) (hw : Region.wanted o (yielded ops a.tmps) = true) {v : Value} {w' : World} (hrun : (execOp a.eval o).run P w = .ok (.value v) w')
    (h : wpList P ops Q rest (a.put d v) w') : wpList P ops Q (o :: rest) a w := by
  subst hd
  refine wpList_step fun K hK => ?_
  rw [if_pos hw]
  unfold Oper.wp
  rw [hrun, Oper.upon_value]
  exact hK _ _ h
theorem wl_read (d : Option Tmp) (hd : o.dst = d) (hw : Region.wanted o (yielded ops a.tmps) = true) {v : Value} (hrun : (execOp a.eval o).run P w = .ok (.value v) w)
    (h : wpList P ops Q rest (a.put d v) w) : wpList P ops Q (o :: rest) a w := wl_run d hd hw hrun h
theorem wl_load (d : Option Tmp) (hd : o.dst = d) (hw : Region.wanted o (yielded ops a.tmps) = true) (ty : TypeId) (x : Operand) (ho : o.op = .load ty x)
    (g : Nat) (hx : a.eval x = .pointer (some ⟨g, 0, none⟩)) (t : TypeId) (cs : List Value) (td : TypeDesc) (hg : Whole w g t cs)
    (hu : P.underlying ty = some td) (hs : (match td with | .struct _ | .array _ _ => true | _ => false) = true) (hi : (P.info? ty).map (·.size) = some cs.length)
    (h : wpList P ops Q rest (a.put d (.agg cs.toArray)) w) : wpList P ops Q (o :: rest) a w := wl_read d hd hw (load_row_run ty x ho g hx t cs td hg hu hs hi) h
end
end Go.Proofs.Ytinfbaflkjghhaa
/- Words for a chain of calls that only make new memory. -/
namespace Go.Proofs.Ytinfbaflkjghhaa
open Go.RowKit
theorem bel_al {w0 w : World} (h : Below w0.heap.size w0 w) (o : Obj) : Below w0.heap.size w0 (w.alloc o) := h.alloc h.size o
theorem bel_bl {w0 w w' : World} (h : Below w0.heap.size w0 w) (hb : Below w.heap.size w w') : Below w0.heap.size w0 w' := h.trans (hb.mono h.size)
theorem bel_dr {w0 w : World} (h : Below w0.heap.size w0 w) : Below w0.heap.size w0 w.drew := h.drew
theorem RdS.al {w : World} {size n c : Nat} {A : Option Addr} {xs : List Value} (h : RdS w w.heap.size size A n c xs) (o : Obj) : RdS (w.alloc o) (w.alloc o).heap.size size A n c xs :=
  h.up ((Below.refl _ _).alloc (Nat.le_refl _) o) (by simp)
theorem RdS.bl {w w' : World} {size n c : Nat} {A : Option Addr} {xs : List Value} (h : RdS w w.heap.size size A n c xs) (hb : Below w.heap.size w w') : RdS w' w'.heap.size size A n c xs := h.up hb hb.size
theorem RdS.dr {w : World} {size n c : Nat} {A : Option Addr} {xs : List Value} (h : RdS w w.heap.size size A n c xs) : RdS w.drew w.drew.heap.size size A n c xs := h.up ((Below.refl _ _).drew) (Nat.le_refl _)
theorem Whole.al {w : World} {g : Nat} {t : TypeId} {cs : List Value} (h : Whole w g t cs) (o : Obj) : Whole (w.alloc o) g t cs := h.alloc o
theorem Whole.bl {w w' : World} {g : Nat} {t : TypeId} {cs : List Value} (h : Whole w g t cs) (hb : Below w.heap.size w w') : Whole w' g t cs := h.below hb
theorem Whole.dr {w : World} {g : Nat} {t : TypeId} {cs : List Value} (h : Whole w g t cs) : Whole w.drew g t cs := h.drew
end Go.Proofs.Ytinfbaflkjghhaa
/- Rows of structs in memory: a list of elements, each some cells; an element taken out of a row; a new variable of the call's own. -/
namespace Go.Proofs.Ytinfbaflkjghhaa
open Go.RowKit
section
variable {α : Type} (f : α → List Value)
def rowsV : List α → List Value
  | [] => []
  | x :: l => f x ++ rowsV l
theorem rowsV_length {s : Nat} (hs : ∀ x, (f x).length = s) (l : List α) : (rowsV f l).length = l.length * s := by
  induction l with
  | nil => simp [rowsV]
  | cons x l ih => simp [rowsV, ih, hs, Nat.succ_mul]; omega
theorem rowsV_app (l m : List α) : rowsV f (l ++ m) = rowsV f l ++ rowsV f m := by
  induction l with
  | nil => rfl
  | cons x l ih => simp [rowsV, ih]
theorem rowsV_get {s : Nat} (hs : ∀ x, (f x).length = s) (l : List α) (k : Nat) (x : α) (hk : l[k]? = some x) (j : Nat) (v : Value) (hv : (f x)[j]? = some v) : (rowsV f l)[k * s + j]? = some v := by
  induction l generalizing k with
  | nil => simp at hk
  | cons y l ih =>
    have hj : j < s := by
      rw [← hs x]
      rcases Nat.lt_or_ge j (f x).length with h | h
      · exact h
      · rw [List.getElem?_eq_none h] at hv; cases hv
    cases k with
    | zero =>
      simp at hk
      subst hk
      simp only [rowsV, Nat.zero_mul, Nat.zero_add]
      rw [List.getElem?_append_left (by rw [hs]; exact hj)]
      exact hv
    | succ k =>
      simp only [rowsV]
      rw [List.getElem?_append_right (by rw [hs, Nat.succ_mul]; omega), hs, show (k + 1) * s + j - s = k * s + j by rw [Nat.succ_mul]; omega]
      exact ih k (by simpa using hk)
theorem rowsV_take {s : Nat} (hs : ∀ x, (f x).length = s) (l : List α) (k : Nat) : rowsV f (l.take k) = (rowsV f l).take (k * s) := by
  induction l generalizing k with
  | nil => simp [rowsV]
  | cons x l ih =>
    cases k with
    | zero => simp [rowsV]
    | succ k =>
      simp only [List.take_succ_cons, rowsV, ih, Nat.succ_mul]
      rw [List.take_append, hs, List.take_of_length_le (l := f x) (by rw [hs]; omega), show k * s + s - s = k * s by omega]
theorem rowsV_drop {s : Nat} (hs : ∀ x, (f x).length = s) (l : List α) (k : Nat) : rowsV f (l.drop k) = (rowsV f l).drop (k * s) := by
  induction l generalizing k with
  | nil => simp [rowsV]
  | cons x l ih =>
    cases k with
    | zero => simp [rowsV]
    | succ k =>
      simp only [List.drop_succ_cons, rowsV, ih, Nat.succ_mul]
      rw [List.drop_append, hs, List.drop_of_length_le (l := f x) (by rw [hs]; omega), show k * s + s - s = k * s by omega]
      simp
theorem rowsV_one (h : ∀ x, ∀ u ∈ f x, u.oneCell' = true) (l : List α) : ∀ u ∈ rowsV f l, u.oneCell' = true := by
  induction l with
  | nil => simp [rowsV]
  | cons x l ih =>
    intro u hu
    rcases List.mem_append.1 hu with hu | hu
    · exact h x u hu
    · exact ih u hu
end
section
variable {w : World} {B n c s : Nat} {A : Option Addr} {α : Type} {f : α → List Value} {L : List α}
theorem RdS.rlen (hs : ∀ x, (f x).length = s) (h0 : 0 < s) (h : RdS w B s A n c (rowsV f L)) : L.length = n := by
  have := h.len
  rw [rowsV_length f hs] at this
  exact Nat.eq_of_mul_eq_mul_right h0 this
/-- Where the elements of a row lie. -/
theorem RdS.place (hs : ∀ x, (f x).length = s) (h0 : 0 < s) (h : RdS w B s A n c (rowsV f L)) (hn : 0 < n) :
    ∃ b off, A = some ⟨b, off, none⟩ ∧ b < B ∧ ∀ k x, L[k]? = some x → ∀ j v, (f x)[j]? = some v → w.cell? (Addr.add ⟨b, off + k * s, none⟩ j) = some v := by
  have hl := h.rlen hs h0
  cases A with
  | none => exact absurd (h.none_ rfl).1 (by omega)
  | some a =>
    have ha : ∃ b off, a = ⟨b, off, none⟩ := by
      obtain ⟨b, off, g⟩ := a
      cases g with
      | none => exact ⟨b, off, rfl⟩
      | some g =>
        have hx : L[0]? = some (L[0]'(by omega)) := List.getElem?_eq_getElem (by omega)
        obtain ⟨v, hv⟩ : ∃ v, (f (L[0]'(by omega)))[0]? = some v := ⟨_, List.getElem?_eq_getElem (by rw [hs (L[0]'(by omega))]; exact h0)⟩
        have h1 := h.cell _ rfl _ _ (rowsV_get f hs L 0 _ hx 0 v hv)
        simp [Addr.add, World.cell?] at h1
        split at h1 <;> cases h1
    obtain ⟨b, off, rfl⟩ := ha
    refine ⟨b, off, rfl, h.low _ rfl hn, fun k x hk j v hv => ?_⟩
    have := h.cell _ rfl _ _ (rowsV_get f hs L k x hk j v hv)
    have e : (⟨b, off, none⟩ : Addr).add (k * s + j) = (⟨b, off + k * s, none⟩ : Addr).add j := by
      simp only [Addr.add_lit, Nat.add_assoc]
    rw [← e]
    exact this
end
theorem run_loadAt_at {P : Program} (w : World) (ty : TypeId) (ad : Addr) (cs : List Value) (d : TypeDesc) (hc : ∀ j v, cs[j]? = some v → w.cell? (ad.add j) = some v)
    (hu : P.underlying ty = some d) (hd : (match d with | .struct _ | .array _ _ => true | _ => false) = true) (hi : (P.info? ty).map (·.size) = some cs.length) :
    (Instr.loadAt ty (.pointer (some ad))).run P w = .ok (.agg cs.toArray) w := by
  have hl : (loadCells ad cs.length).run P w = .ok cs.toArray w := run_loadCells_list (P := P) w ad cs hc
  cases hq : P.info? ty with
  | none => simp [hq] at hi
  | some i =>
    have hs : i.size = cs.length := by simpa [hq] using hi
    have hagg : (isAgg ty).run P w = .ok true w := by
      unfold isAgg
      rw [Sem.run_bind, run_underlying hu w]
      cases d <;> simp_all
    simp [Instr.loadAt, Instr.sureAddr, loadVar, Sem.run_bind, hagg, sizeOf, typeInfo, hq, hs, hl]
theorem load_at_run {P : Program} {ev : Operand → Value} {o : Oper} {w : World} (ty : TypeId) (x : Operand) (ho : o.op = .load ty x) (ad : Addr) (hx : ev x = .pointer (some ad)) (cs : List Value) (d : TypeDesc)
    (hc : ∀ j v, cs[j]? = some v → w.cell? (ad.add j) = some v)
    (hu : P.underlying ty = some d) (hd : (match d with | .struct _ | .array _ _ => true | _ => false) = true) (hi : (P.info? ty).map (·.size) = some cs.length) :
    (execOp ev o).run P w = .ok (.value (.agg cs.toArray)) w := by
  unfold execOp
  simp only [ho, hx, Sem.run_bind, Sem.run_pure, Result.andThen_ok, run_loadAt_at w ty ad cs d hc hu hd hi]
theorem exec_buildSlice {P : Program} {ev : Operand → Value} {o : Oper} {w : World} (t e : TypeId) (len : Nat) (parts : Array (Nat × Operand)) (ho : o.op = .buildSlice t len parts) (hu : P.underlying t = some (.slice e)) (cells : Array Value)
    (hf : P.builtSlice e len (parts.map fun (i, x) => (i, ev x)).toList = some cells) : (execOp ev o).run P w = .ok (.value (.slice (some ⟨w.heap.size, 0, none⟩) len len)) (w.alloc (.cells cells e)) := by
  have hb : (Instr.buildSlice t len (parts.map fun (i, x) => (i, ev x))).run P w = .ok (.slice (some ⟨w.heap.size, 0, none⟩) len len) (w.alloc (.cells cells e)) := by
    unfold Program.builtSlice at hf
    cases hie : P.info? e with
    | none => simp [hie] at hf
    | some ie =>
      simp only [hie] at hf
      cases hz : ie.zero with
      | none => simp [hz] at hf
      | some z =>
        simp only [hz] at hf
        by_cases hc : len * ie.size > 2 ^ 24 ∨ len * ie.size = 0
        · simp [hc] at hf
        · rw [if_neg hc] at hf
          exact run_buildSlice w t e len _ cells ie z hu hie hz (fun h' => hc (Or.inl h')) (fun h' => hc (Or.inr h')) hf
  unfold execOp
  simp only [ho, Sem.run_bind, Sem.run_pure, Result.andThen_ok, hb]
theorem RdS.take_ {w : World} {B size n c : Nat} {A : Option Addr} {xs : List Value} (h : RdS w B size A n c xs) (k : Nat) (hk : k ≤ n) : RdS w B size A k c (xs.take (k * size)) := by
  have hlen := h.len
  have hm : k * size ≤ n * size := Nat.mul_le_mul_right _ hk
  refine ⟨by rw [List.length_take]; omega, fun e => ?_, Nat.le_trans hk h.le, fun a ha h0 => h.low a ha (by omega), fun a ha j u hu => ?_⟩
  · have := h.none_ e
    omega
  · rw [List.getElem?_take] at hu
    split at hu
    · exact h.cell a ha j u hu
    · cases hu
section
variable {P : Program} {ops : Array Oper} {rest : List Oper} {o o' : Oper} {a : Act} {w : World} {Q : Exit → Act → World → Prop} {S : Nat → Prop}
/-- A struct taken out of where it lies. -/
theorem wl_load_at (d : Option Tmp) (hd : o.dst = d) (hw : Region.wanted o (yielded ops a.tmps) = true) (ty : TypeId) (x : Operand) (ho : o.op = .load ty x) (ad : Addr) (hx : a.eval x = .pointer (some ad)) (cs : List Value) (td : TypeDesc)
    (hc : ∀ j v, cs[j]? = some v → w.cell? (ad.add j) = some v)
    (hu : P.underlying ty = some td) (hs : (match td with | .struct _ | .array _ _ => true | _ => false) = true) (hi : (P.info? ty).map (·.size) = some cs.length)
    (h : wpList P ops Q rest (a.put d (.agg cs.toArray)) w) : wpList P ops Q (o :: rest) a w := wl_read d hd hw (load_at_run ty x ho ad hx cs td hc hu hs hi) h
theorem yr_load_at (h : Region.wanted o (yielded ops a.tmps) = true) (ty : TypeId) (x : Operand) (ho : o.op = .load ty x) (ad : Addr) (hx : a.eval x = .pointer (some ad)) (cs : List Value) (td : TypeDesc)
    (hc : ∀ w', Kept S w w' → ∀ j v, cs[j]? = some v → w'.cell? (ad.add j) = some v)
    (hu : P.underlying ty = some td) (hs : (match td with | .struct _ | .array _ _ => true | _ => false) = true) (hi : (P.info? ty).map (·.size) = some cs.length) :
    YieldsR P ops S o (.agg cs.toArray) a w := yr_run h fun w' hw => load_at_run ty x ho ad hx cs td (hc w' hw) hu hs hi
/-- A slice literal. -/
theorem wl_buildSlice (d : Option Tmp) (hd : o.dst = d) (hw : Region.wanted o (yielded ops a.tmps) = true) (t e : TypeId) (len : Nat) (parts : Array (Nat × Operand)) (ho : o.op = .buildSlice t len parts) (hu : P.underlying t = some (.slice e)) (cells : Array Value)
    (hf : P.builtSlice e len (parts.map fun (i, x) => (i, a.eval x)).toList = some cells)
    (h : wpList P ops Q rest (a.put d (.slice (some ⟨w.heap.size, 0, none⟩) len len)) (w.alloc (.cells cells e))) : wpList P ops Q (o :: rest) a w :=
  wl_run d hd hw (exec_buildSlice t e len parts ho hu cells hf) h
/-- A new variable, and what is stored into it at once. -/
theorem wl_new (p : Tmp) (hd : o.dst = some p) (hg : o.guard = none) (hg' : o'.guard = none) (ty : TypeId) (y : Operand) (ho' : o'.op = .store ty (.tmp p) y) (hd' : o'.dst = none) (zc : Array Value)
    (hal : (execOp a.eval o).run P w = .ok (.value (.pointer (some ⟨w.heap.size, 0, none⟩))) (w.alloc (.cells zc ty)))
    (cs : Array Value) (hp : p < a.tmps.size) (hy : (a.put (some p) (.pointer (some ⟨w.heap.size, 0, none⟩))).eval y = .agg cs)
    (hi : (P.info? ty).map (·.size) = some cs.size) (hsz : zc.size = cs.size) (h1 : cs.all (·.oneCell') = true)
    (h : wpList P ops Q rest (a.put (some p) (.pointer (some ⟨w.heap.size, 0, none⟩))) (w.alloc (.cells cs ty))) : wpList P ops Q (o :: o' :: rest) a w := by
  refine Great.wpList_allocTo hg (some p) hd _ (.cells zc ty) hal ?_
  refine wpList_store_row hg' ty (.tmp p) y ho' w.heap.size cs ?_ hy ty zc (heap_alloc_last _ _) hi hsz h1 ?_
  · simp [Act.put, Act.eval, Array.getD, hp]
  · rw [World.setRow_alloc_new, hd']
    exact h
end
end Go.Proofs.Ytinfbaflkjghhaa
/- A row of the call's own that grows: what stands of it, and an append onto it. -/
namespace Go.Proofs.Ytinfbaflkjghhaa
open Go.RowKit
/-- v is a row of n elements of type e, of the call's own from block B on; nothing that was there in w has turned. -/
structure Ow (w : World) (B : Nat) (e : TypeId) (size : Nat) (v : Value) (n : Nat) (xs : List Value) (W : World) : Prop where
  own : W.ownsRow B e size v n xs
  below : Below w.heap.size w W
  lo : w.heap.size ≤ B
  hi : B ≤ W.heap.size
section
variable {w W W' : World} {B size n : Nat} {e : TypeId} {v : Value} {xs : List Value}
theorem own_up {x y : World} {B n : Nat} {e : TypeId} {size : Nat} {v : Value} {xs : List Value} (h : x.ownsRow B e size v n xs) (hx : Below x.heap.size x y) : y.ownsRow B e size v n xs :=
  h.kept (row := none) ⟨hx.os, hx.tape, hx.output, hx.size, fun i hi _ => hx.block i hi⟩ (by cases hv : v.ownBlock <;> simp)
theorem Ow.up (h : Ow w B e size v n xs W) (hb : Below W.heap.size W W') : Ow w B e size v n xs W' :=
  ⟨own_up h.own hb, h.below.trans (hb.mono h.below.size), h.lo, Nat.le_trans h.hi hb.size⟩
theorem Ow.rds (h : Ow w B e size v n xs W) : ∃ A c, v = .slice A n c ∧ RdS W W.heap.size size A n c xs := RdS.of_own h.own
theorem Ow.new_ {W : World} {cs : Array Value} (hw : Below w.heap.size w W) (hl : w.heap.size ≤ B) (hh : B ≤ W.heap.size) (hn : n ≤ maxLen) (hs : cs.size = n * size) : Ow w B e size (.slice (some ⟨W.heap.size, 0, none⟩) n n) n cs.toList (W.alloc (.cells cs e)) :=
  ⟨own_new rfl hh hn hs rfl, hw.alloc hw.size _, hl, by simp; omega⟩
theorem Ow.nil_ {W : World} (hw : Below w.heap.size w W) (hl : w.heap.size ≤ B) (hh : B ≤ W.heap.size) : Ow w B e size (.slice none 0 0) 0 [] W :=
  ⟨World.ownsRow_nil W B e size, hw, hl, hh⟩
end
end Go.Proofs.Ytinfbaflkjghhaa
/- An append as an equation, onto a row of the call's own. -/
namespace Go.Proofs.Ytinfbaflkjghhaa
open Go.RowKit
theorem Ow.app {P : Program} {w W : World} (t ty e : TypeId) (i : TypeInfo) (z : Value) (size bytes B : Nat) (ht : P.underlying t = some (.slice e)) (hi : P.info? e = some i) (hz : i.zero = some z)
    (hsize : i.size = size) (hby : i.bytes = bytes) (hzs : z.cells.size = size) (hsz : 0 < size)
    (v : Value) (n : Nat) (xs : List Value) (how : Ow w B e size v n xs W)
    (BB : Nat) (A : Option Addr) (m c : Nat) (news : List Value) (hr : RdS W BB size A m c news) (h1 : ∀ u ∈ news, u.oneCell' = true)
    (h63 : n + m ≤ maxLen) (hbytes : (n + m) * bytes ≤ 140737488355328) :
    ∃ v' W', (Builtin.append_ #[t, t] ty #[v, .slice A m c]).run P W = .ok v' W' ∧ Ow w B e size v' (n + m) (xs ++ news) W' ∧ Below B W W' := by
  cases A with
  | none =>
    obtain ⟨rfl, rfl⟩ := hr.none_ rfl
    have hnil : news = [] := List.eq_nil_of_length_eq_zero (by simpa using hr.len)
    subst hnil
    exact ⟨v, W, run_append_owned_none (P := P) (w := W) B t ty e i size ht hi v n xs how.own, by simpa using how, Below.refl _ _⟩
  | some ad =>
    obtain ⟨v', w', hrun, hown, hg, _, _⟩ := run_append_own_at (P := P) W B t ty e i z size bytes ht hi hz hsize hby hzs hsz v n xs how.own ad m c news hr.len (hr.cell ad rfl) h1 h63 hbytes how.hi
    have hk : ∀ k, v.ownBlock = some k → B ≤ k := fun k hk => (how.own.lt k hk).1
    exact ⟨v', w', hrun, ⟨hown, how.below.grown hg how.below.size (fun k e => Nat.le_trans how.lo (hk k e)), how.lo, Nat.le_trans how.hi hg.size⟩, (Below.refl B W).grown hg how.hi hk⟩
/-- What may turn: blocks from B on. -/
def From_ (B : Nat) (i : Nat) : Prop := B ≤ i
theorem Kept.of_from {B : Nat} {a b : World} (h : Below B a b) : Kept (From_ B) a b := ⟨h.os, h.tape, h.output, h.size, fun i _ hn => h.block i (by unfold From_ at hn; omega)⟩
theorem Kept.from_cell {B : Nat} {w w' : World} (h : Kept (From_ B) w w') {p : Addr} {v : Value} (hp : p.block < B) (hc : w.cell? p = some v) : w'.cell? p = some v :=
  h.cell hc (fun e => by unfold From_ at e; omega)
end Go.Proofs.Ytinfbaflkjghhaa
/- A growing row that began as an empty one from before: told either way. -/
namespace Go.Proofs.Ytinfbaflkjghhaa
open Go.RowKit
theorem wpList_app {P : Program} {w w' : World} {ops : Array Oper} {rest : List Oper} {o : Oper} {a : Act} {Q : Exit → Act → World → Prop} (hgd : o.guard = none) (s x : Operand) (t : TypeId)
    (ho : o.op = .call { callee := .builtin .append, args := #[s, x], argTypes := #[t, t] }) {v u v' : Value} (hs : a.eval s = v) (hx : a.eval x = u)
    (hrun : (Builtin.append_ #[t, t] o.type #[v, u]).run P w = .ok v' w') (h : wpList P ops Q rest (a.put o.dst v') w') : wpList P ops Q (o :: rest) a w := by
  refine wpList_plain hgd fun K hK => ?_
  unfold Oper.wp
  simp [execOp, ho, resolve, invoke, builtin, hs, hx, hrun, Result.andThen]
  exact hK _ _ h
/-- v is as yet the empty row at g0, or a row of the call's own. -/
def Gr (w : World) (g0 : Nat) (e : TypeId) (size : Nat) (v : Value) (n : Nat) (xs : List Value) (W : World) : Prop :=
  (n = 0 ∧ xs = [] ∧ v = .slice (some ⟨g0, 0, none⟩) 0 0 ∧ Below w.heap.size w W) ∨ Ow w w.heap.size e size v n xs W
theorem Gr.below {w W : World} {g0 size n : Nat} {e : TypeId} {v : Value} {xs : List Value} (h : Gr w g0 e size v n xs W) : Below w.heap.size w W := by
  rcases h with ⟨_, _, _, h⟩ | h
  · exact h
  · exact h.below
theorem Gr.up {w W W' : World} {g0 size n : Nat} {e : TypeId} {v : Value} {xs : List Value} (h : Gr w g0 e size v n xs W) (hb : Below W.heap.size W W') : Gr w g0 e size v n xs W' := by
  rcases h with ⟨h1, h2, h3, h⟩ | h
  · exact .inl ⟨h1, h2, h3, h.trans (hb.mono h.size)⟩
  · exact .inr (h.up hb)
theorem Gr.rds {w W : World} {g0 size n : Nat} {e : TypeId} {v : Value} {xs : List Value} (h : Gr w g0 e size v n xs W) : ∃ A c, v = .slice A n c ∧ RdS W W.heap.size size A n c xs := by
  rcases h with ⟨rfl, rfl, rfl, h⟩ | h
  · exact ⟨_, _, rfl, ⟨by simp, fun e => (by cases e), Nat.le_refl _, fun _ _ h => absurd h (by omega), fun _ _ j u hj => by simp at hj⟩⟩
  · exact h.rds
theorem Gr.app {P : Program} {w W : World} (t ty e : TypeId) (i : TypeInfo) (z : Value) (size bytes g0 : Nat) (ht : P.underlying t = some (.slice e)) (hi : P.info? e = some i) (hz : i.zero = some z)
    (hsize : i.size = size) (hby : i.bytes = bytes) (hzs : z.cells.size = size) (hsz : 0 < size)
    (v : Value) (n : Nat) (xs : List Value) (how : Gr w g0 e size v n xs W)
    (BB : Nat) (A : Option Addr) (m c : Nat) (news : List Value) (hr : RdS W BB size A m c news) (h1 : ∀ u ∈ news, u.oneCell' = true) (hm : 0 < m)
    (h63 : n + m ≤ maxLen) (hbytes : (n + m) * bytes ≤ 140737488355328) :
    ∃ v' W', (Builtin.append_ #[t, t] ty #[v, .slice A m c]).run P W = .ok v' W' ∧ Gr w g0 e size v' (n + m) (xs ++ news) W' ∧ Below w.heap.size W W' := by
  rcases how with ⟨rfl, rfl, rfl, hb⟩ | how
  · subst hsize
    subst hby
    have hsmall : 0 + m ≤ 9223372036854775807 := by simp only [maxLen] at h63; omega
    cases A with
    | none => have := (hr.none_ rfl).1; omega
    | some a =>
      have hrun := run_append_grow (P := P) W t ty e i z ht hi hz ⟨g0, 0, none⟩ 0 0 [] (by simp) (fun j u hj => by simp at hj) a m c news hr.len (fun j u hj => hr.cell a rfl j u hj) (by omega) (by omega) (growslice_fits (by omega) hbytes)
      have hlen : ([] ++ news).length = (0 + m) * i.size := by rw [List.nil_append, hr.len, Nat.zero_add]
      have hge := grownCap_ge W (0 + m) 0 e
      have hcm : grownCap W (0 + m) 0 e ≤ maxLen := grownCap_le_maxLen W (0 + m) 0 e h63
      obtain ⟨G, gG⟩ : ∃ G, grownCap W (0 + m) 0 e = G := ⟨_, rfl⟩
      rw [gG] at hrun hge hcm
      have hb1 : Below W.heap.size W (W.drew.alloc (.cells (#[] ++ news.toArray ++ Builtin.zeroCells z.cells (G - (0 + m))) e)) := ((Below.refl _ _).drew).alloc (Nat.le_refl _) _
      refine ⟨_, _, hrun, .inr ⟨⟨hlen, .inr ⟨W.heap.size, _, _, rfl, hb.size, heap_alloc_new W.drew _, hge, hcm, ?_, ?_⟩⟩, hb.trans (hb1.mono hb.size), Nat.le_refl _, Nat.le_trans hb.size hb1.size⟩, hb1.mono hb.size⟩
      · simp only [Array.size_append, List.size_toArray, size_zeroCells, hzs, hr.len, List.length_nil, Nat.zero_add, ← Nat.add_mul]
        congr 1
        omega
      · simp only [Array.toList_append, List.append_assoc]
        rw [← List.append_assoc, ← hlen]
        exact List.take_left
  · obtain ⟨v', W', h1, h2, h3⟩ := Ow.app (P := P) t ty e i z size bytes w.heap.size ht hi hz hsize hby hzs hsz v n xs how BB A m c news hr h1 h63 hbytes
    exact ⟨v', W', h1, .inr h2, h3⟩
/-- A write to another block. -/
theorem RdS.far {w : World} {size n c : Nat} {A : Option Addr} {xs : List Value} (h : RdS w w.heap.size size A n c xs) {p : Addr} (hp : 0 < n → ∀ a, A = some a → a.block ≠ p.block) (u : Value) : RdS (w.setCell p u) (w.setCell p u).heap.size size A n c xs := by
  have hs : (w.setCell p u).heap.size = w.heap.size := by simp [World.setCell]
  refine ⟨h.len, h.none_, h.le, fun a e hn => by rw [hs]; exact h.low a e hn, fun a e j v hj => ?_⟩
  have hn : 0 < n := by
    rcases Nat.eq_zero_or_pos n with h0 | h0
    · subst h0
      have := h.len
      rw [Nat.zero_mul] at this
      rw [List.eq_nil_of_length_eq_zero this] at hj
      simp at hj
    · exact h0
  rw [← h.cell a e j v hj]
  refine World.cell?_of_block (Below.heap_setCell w p u _ ?_)
  rw [add_block]
  exact hp hn a e
end Go.Proofs.Ytinfbaflkjghhaa
/- An append onto a row of the call's own, and what it leaves of other blocks. -/
namespace Go.Proofs.Ytinfbaflkjghhaa
open Go.RowKit
theorem Whole.grown {W W' : World} {g : Nat} {t : TypeId} {cs : List Value} {r : Option Nat} (h : Whole W g t cs) (hg : W.grownBy W' r) (hne : some g ≠ r) : Whole W' g t cs :=
  h.at_ (hg.block g h.lt hne)
/-- A block that was made behind a row is not the row's. -/
theorem Ow.ne_ {w W : World} {B size n g : Nat} {e : TypeId} {v : Value} {xs : List Value} (h : Ow w B e size v n xs W) (hg : W.heap.size ≤ g) : some g ≠ v.ownBlock := fun e => by
  have := (h.own.lt g e.symm).2
  omega
theorem wpList_push2 {P : Program} {w W : World} {ops : Array Oper} {rest : List Oper} {o : Oper} {a : Act} {Q : Exit → Act → World → Prop} (hgd : o.guard = none) (s x : Operand) (t : TypeId)
    (ho : o.op = .call { callee := .builtin .append, args := #[s, x], argTypes := #[t, t] })
    (B : Nat) (e : TypeId) (i : TypeInfo) (z : Value) (size bytes : Nat) (ht : P.underlying t = some (.slice e)) (hi : P.info? e = some i) (hz : i.zero = some z)
    (hsize : i.size = size) (hby : i.bytes = bytes) (hzs : z.cells.size = size) (hsz : 0 < size)
    (v : Value) (n : Nat) (xs : List Value) (hs : a.eval s = v) (how : Ow w B e size v n xs W)
    (BB : Nat) (A : Option Addr) (m c : Nat) (news : List Value) (hx : a.eval x = .slice A m c) (hr : RdS W BB size A m c news) (h1 : ∀ u ∈ news, u.oneCell' = true)
    (h63 : n + m ≤ maxLen) (hbytes : (n + m) * bytes ≤ 140737488355328)
    (h : ∀ v' W', Ow w B e size v' (n + m) (xs ++ news) W' → Below B W W' → W.grownBy W' v.ownBlock → wpList P ops Q rest (a.put o.dst v') W') :
    wpList P ops Q (o :: rest) a W := by
  refine wpList_append_rds hgd s x t ho B e i z size bytes ht hi hz hsize hby hzs hsz v n xs hs how.own BB A m c news hx hr h1 h63 hbytes how.hi fun v' w' hown hg _ => ?_
  have hk : ∀ k, v.ownBlock = some k → B ≤ k := fun k hk => (how.own.lt k hk).1
  exact h v' w' ⟨hown, how.below.grown hg how.below.size (fun k e => Nat.le_trans how.lo (hk k e)), how.lo, Nat.le_trans how.hi hg.size⟩ ((Below.refl B W).grown hg how.hi hk) hg
end Go.Proofs.Ytinfbaflkjghhaa
/- A drawn region in which more than one operation that turns memory may be next: each way. Rows of the call's own that grow in it, beside variables of its own. -/
namespace Go.Proofs.Ytinfbaflkjghhaa
open Go.RowKit
section
variable {P : Program} {ops : Array Oper} {S : Nat → Prop} {Q : Exit → Act → World → Prop} {md : Region.Mode} {fuel : Nat} {listed : Array Bool} {a : Act} {w : World}
/-- Operation i is next. -/
def At_ (P : Program) (md : Region.Mode) (ops : Array Oper) (S : Nat → Prop) (Q : Exit → Act → World → Prop) (fuel : Nat) (listed : Array Bool) (a : Act) (w : World) (i : Nat) : Prop :=
  ∀ w', Ext w w' → wpOp P ops Q i (fun a' w'' => Kept S w' w'' ∧ wpR P md ops S Q fuel (listed.setIfInBounds i true) a' w'') a w'
theorem wpR_two (i j : Nat) (hr : Region.ready md ops listed = [i, j]) (h1 : At_ P md ops S Q fuel listed a w i) (h2 : At_ P md ops S Q fuel listed a w j) : wpR P md ops S Q (fuel + 1) listed a w := by
  refine ⟨fun h0 => (by rw [h0] at hr; cases hr), fun w1 hw1 k hk => ?_⟩
  rw [hr] at hk
  rcases List.mem_cons.1 hk with rfl | hk
  · exact h1 w1 hw1
  · obtain rfl := List.mem_singleton.1 hk
    exact h2 w1 hw1
theorem wpR_one (i : Nat) (hr : Region.ready md ops listed = [i]) (h1 : At_ P md ops S Q fuel listed a w i) : wpR P md ops S Q (fuel + 1) listed a w := by
  refine ⟨fun h0 => (by rw [h0] at hr; cases hr), fun w1 hw1 k hk => ?_⟩
  rw [hr] at hk
  obtain rfl := List.mem_singleton.1 hk
  exact h1 w1 hw1
/-- An operation that answers and may turn the world. -/
theorem at_run (i : Nat) (d : Option Tmp) {oi : Oper} (hi : ops[i]? = some oi) (hd : oi.dst = d) (hw : Region.wanted oi (yielded ops a.tmps) = true)
    (h : ∀ w', Ext w w' → ∃ v w'', (execOp a.eval oi).run P w' = .ok (.value v) w'' ∧ Kept S w' w'' ∧ wpR P md ops S Q fuel (listed.setIfInBounds i true) (a.put d v) w'') : At_ P md ops S Q fuel listed a w i := by
  subst hd
  intro w' hx
  obtain ⟨v, w'', h1, h2, h3⟩ := h w' hx
  unfold Go.wpOp
  simp only [hi, hw, if_true]
  refine .inl ?_
  unfold Oper.wp
  rw [h1]
  exact ⟨h2, h3⟩
/-- A call. -/
theorem at_call (i : Nat) (d : Option Tmp) {oi : Oper} {f : FuncId} {args : Array Value} (hi : ops[i]? = some oi) (hd : oi.dst = d) (hw : Region.wanted oi (yielded ops a.tmps) = true)
    (he : ∀ w', (execOp a.eval oi).run P w' = .ok (.enter f args) w')
    (h : ∀ w', Ext w w' → Calls P f args w' fun e w'' => ∃ v, e = .returned v ∧ Kept S w' w'' ∧ wpR P md ops S Q fuel (listed.setIfInBounds i true) (a.put d v) w'') : At_ P md ops S Q fuel listed a w i := by
  subst hd
  intro w1 hw1
  unfold Go.wpOp
  simp only [hi, hw, if_true]
  refine .inl ?_
  unfold Oper.wp
  rw [he w1]
  refine Calls.mono (h w1 hw1) fun e w'' hx => ?_
  obtain ⟨v, rfl, hk, hn⟩ := hx
  exact ⟨hk, hn⟩
end
/-- What stands behind a piece of code, said once for all ways through it. -/
theorem wp_behind {P : Program} {c : Code} {K : Act → World → Prop} {Q' : Exit → Act → World → Prop} {a : Act} {w : World} (Φ : Act → World → Prop)
    (h : c.wp P (fun e a' w' => e = .normal ∧ Φ a' w') a w) (hk : ∀ a' w', Φ a' w' → K a' w') : c.wp P (Exit.then K Q') a w := by
  refine wp_mono h fun e a' w' ⟨he, hp⟩ => ?_
  subst he
  exact hk _ _ hp
theorem wp_behind2 {P : Program} {c : Code} {K : Act → World → Prop} {Q' : Exit → Act → World → Prop} {a : Act} {w : World} (Φ : Act → Act → World → Prop)
    (h : c.wp P (fun e a' w' => e = .normal ∧ Φ a a' w') a w) (hk : ∀ a' w', Φ a a' w' → K a' w') : c.wp P (Exit.then K Q') a w := wp_behind (Φ a) h hk
theorem RdS.grown {W W' : World} {size n c : Nat} {A : Option Addr} {xs : List Value} {r : Option Nat} (h : RdS W W.heap.size size A n c xs) (hg : W.grownBy W' r) (hne : ∀ a, A = some a → 0 < n → some a.block ≠ r) : RdS W' W'.heap.size size A n c xs := by
  refine ⟨h.len, h.none_, h.le, fun a ha hn => Nat.lt_of_lt_of_le (h.low a ha hn) hg.size, fun a ha j u hu => ?_⟩
  rw [← h.cell a ha j u hu]
  refine World.cell?_of_block (hg.block _ ?_ ?_)
  · rw [add_block]; exact h.low a ha (h.pos hu)
  · rw [add_block]; exact hne a ha (h.pos hu)
theorem Ow.app2 {P : Program} {w W : World} (t ty e : TypeId) (i : TypeInfo) (z : Value) (size bytes B : Nat) (ht : P.underlying t = some (.slice e)) (hi : P.info? e = some i) (hz : i.zero = some z)
    (hsize : i.size = size) (hby : i.bytes = bytes) (hzs : z.cells.size = size) (hsz : 0 < size)
    (v : Value) (n : Nat) (xs : List Value) (how : Ow w B e size v n xs W)
    (BB : Nat) (A : Option Addr) (m c : Nat) (news : List Value) (hr : RdS W BB size A m c news) (h1 : ∀ u ∈ news, u.oneCell' = true)
    (h63 : n + m ≤ maxLen) (hbytes : (n + m) * bytes ≤ 140737488355328) :
    ∃ v' W', (Builtin.append_ #[t, t] ty #[v, .slice A m c]).run P W = .ok v' W' ∧ Ow w B e size v' (n + m) (xs ++ news) W' ∧ Below B W W' ∧ W.grownBy W' v.ownBlock ∧ (v'.ownBlock = v.ownBlock ∨ v'.ownBlock = some W.heap.size) := by
  cases A with
  | none =>
    obtain ⟨rfl, rfl⟩ := hr.none_ rfl
    have hnil : news = [] := List.eq_nil_of_length_eq_zero (by simpa using hr.len)
    subst hnil
    exact ⟨v, W, run_append_owned_none (P := P) (w := W) B t ty e i size ht hi v n xs how.own, by simpa using how, Below.refl _ _, World.grownBy.refl W _, .inl rfl⟩
  | some ad =>
    obtain ⟨v', w', hrun, hown, hg, _, ho⟩ := run_append_own_at (P := P) W B t ty e i z size bytes ht hi hz hsize hby hzs hsz v n xs how.own ad m c news hr.len (hr.cell ad rfl) h1 h63 hbytes how.hi
    have hk : ∀ k, v.ownBlock = some k → B ≤ k := fun k hk => (how.own.lt k hk).1
    exact ⟨v', w', hrun, ⟨hown, how.below.grown hg how.below.size (fun k e => Nat.le_trans how.lo (hk k e)), how.lo, Nat.le_trans how.hi hg.size⟩, (Below.refl B W).grown hg how.hi hk, hg, ho⟩
theorem Ow.ne2 {v v' : Value} {W : World} {g : Nat} (h : some g ≠ v.ownBlock) (hg : g < W.heap.size) (ho : v'.ownBlock = v.ownBlock ∨ v'.ownBlock = some W.heap.size) : some g ≠ v'.ownBlock := by
  rcases ho with ho | ho
  · rw [ho]; exact h
  · rw [ho]
    intro e
    have := Option.some.inj e
    omega
end Go.Proofs.Ytinfbaflkjghhaa
/- A struct stored whole into a block; what stands then. -/
namespace Go.Proofs.Ytinfbaflkjghhaa
open Go.RowKit
theorem store_row_run {P : Program} {ev : Operand → Value} {o : Oper} {w : World} (ty : TypeId) (x y : Operand) (ho : o.op = .store ty x y) (g : Nat) (hx : ev x = .pointer (some ⟨g, 0, none⟩))
    (cs' : List Value) (hy : ev y = .agg cs'.toArray) (t : TypeId) (cs : List Value) (hg : Whole w g t cs) (hi : (P.info? ty).map (·.size) = some cs'.length) (hl : cs.length = cs'.length) (h1 : cs'.all (·.oneCell') = true) :
    (execOp ev o).run P w = .ok .skip (w.setRow g cs'.toArray) := by
  have h := run_storeVar_row (P := P) w g t ty cs.toArray cs'.toArray hg (by simpa using hi) (by simpa using hl) (by simpa using h1)
  unfold execOp
  simp only [ho, hx, hy, Instr.storeAt, Instr.sureAddr, Sem.run_bind, Sem.run_pure, Result.andThen_ok, h]
theorem Whole.row {w : World} {g : Nat} {t : TypeId} {cs : List Value} (h : Whole w g t cs) (cs' : List Value) : Whole (w.setRow g cs'.toArray) g t cs' := setRow_heap w g _ _ _ _ h
theorem kept_row {S : Nat → Prop} {w : World} {g : Nat} (hS : S g) (cs : Array Value) : Kept S w (w.setRow g cs) := ⟨rfl, rfl, rfl, by simp [World.setRow], fun i _ hn => setRow_other w g i cs (fun e => hn (e ▸ hS))⟩
theorem below_row {B : Nat} {a w : World} {g : Nat} (h : Below B a w) (hg : B ≤ g) (cs : Array Value) : Below B a (w.setRow g cs) :=
  ⟨h.os, h.tape, h.output, (by have := h.size; simpa [World.setRow] using this), fun i hi => (setRow_other w g i _ (by omega)).trans (h.block i hi)⟩
theorem RdS.kept_ne {S : Nat → Prop} {w w' : World} {size n c : Nat} {A : Option Addr} {xs : List Value} (h : RdS w w.heap.size size A n c xs) (hk : Kept S w w') (hne : ∀ a, A = some a → 0 < n → ¬ S a.block) : RdS w' w'.heap.size size A n c xs := by
  refine ⟨h.len, h.none_, h.le, fun a e hn => Nat.lt_of_lt_of_le (h.low a e hn) hk.size, fun a e j v hj => ?_⟩
  have hn := h.pos hj
  exact hk.cell (h.cell a e j v hj) (by rw [add_block]; exact hne a e hn)
end Go.Proofs.Ytinfbaflkjghhaa
/- Pieces of slices: the operations s[:k] and s[k:], and what they read as; the elements of a row at a known place. -/
namespace Go.Proofs.Ytinfbaflkjghhaa
open Go.RowKit Go.Deep
theorem exec_slice_low {P : Program} {ev : Operand → Value} {o : Oper} {w : World} (t e : TypeId) (x lo : Operand) (ho : o.op = .slice t x (some lo) none none) (hu : P.underlying t = some (.slice e)) {s : Nat} (hs : (P.info? e).map (·.size) = some s)
    {A : Option Addr} {n c k : Nat} (hx : ev x = .slice A n c) (hk : ev lo = .int .i64 (k : Int)) (hkn : k ≤ n) : (execOp ev o).run P w = .ok (.value (.slice (if c = k then A else A.map (·.add (k * s))) (n - k) (c - k))) w := by
  cases hq : P.info? e with
  | none => simp [hq] at hs
  | some i =>
    have hi' : i.size = s := by simpa [hq] using hs
    have h1 : (Instr.slice t (.slice A n c) (some (.int .i64 (k : Int))) none none).run P w = .ok (.slice (if c = k then A else A.map (·.add (k * s))) (n - k) (c - k)) w := by
      have hb : (Instr.sliceBound (.int .i64 (k : Int)) n .sliceB).run P w = .ok (k : Int).toNat w := run_sliceBound _ _ _ _ _ (Int.natCast_nonneg k) (by omega)
      simp only [Instr.slice, Sem.run_bind, run_underlying hu, Result.andThen_ok, Instr.sliceBounds, Sem.run_pure, Option.isSome_none, Bool.false_eq_true, if_false, hb, sizeOf, typeInfo, hq, Int.toNat_natCast]
      simp [hq, hi']
    unfold execOp
    simp only [ho, Option.map_none, Option.map_some, hx, hk, Sem.run_bind, Sem.run_pure, Result.andThen_ok]
    rw [show (Instr.sliceAt t (.slice A n c) (some (.int .i64 (k : Int))) none none).run P w = (Instr.slice t (.slice A n c) (some (.int .i64 (k : Int))) none none).run P w from by simp [Instr.sliceAt, run_underlying hu], h1]
    rfl
theorem RdS.low_ {w : World} {B s n c k : Nat} {A : Option Addr} {xs : List Value} (h : RdS w B s A n c xs) (hk : k ≤ n) : RdS w B s (if c = k then A else A.map (·.add (k * s))) (n - k) (c - k) (xs.drop (k * s)) := by
  have hle := h.le
  have hlen := h.len
  refine ⟨by rw [List.length_drop, hlen, Nat.sub_mul], fun e => ?_, by omega, fun a ha hn => ?_, fun a ha j u hu => ?_⟩
  · split at e
    · omega
    · cases hA : A with
      | none => have := h.none_ hA; omega
      | some a => rw [hA] at e; cases e
  · rw [if_neg (by omega)] at ha
    cases hA : A with
    | none => rw [hA] at ha; cases ha
    | some b =>
      rw [hA] at ha
      obtain rfl := Option.some.inj ha
      rw [add_block]
      exact h.low b hA (by omega)
  · have hj : j < (xs.drop (k * s)).length := (List.getElem?_eq_some_iff.1 hu).1
    have hkn : k < n := by
      rcases Nat.lt_or_ge k n with h1 | h1
      · exact h1
      · have : k = n := by omega
        subst this
        rw [List.length_drop, hlen] at hj
        omega
    rw [if_neg (by omega)] at ha
    cases hA : A with
    | none => rw [hA] at ha; cases ha
    | some b =>
      rw [hA] at ha
      obtain rfl := Option.some.inj ha
      rw [add_add]
      rw [List.getElem?_drop] at hu
      exact h.cell b hA _ _ hu
/-- The elements of a row whose place is known. -/
theorem RdS.elem {w : World} {B s n c : Nat} {b off : Nat} {α : Type} {f : α → List Value} {L : List α} (hs : ∀ x, (f x).length = s) (h : RdS w B s (some ⟨b, off, none⟩) n c (rowsV f L)) {k : Nat} {x : α} (hk : L[k]? = some x) :
    ∀ j v, (f x)[j]? = some v → w.cell? (Addr.add ⟨b, off + k * s, none⟩ j) = some v := by
  intro j v hv
  have := h.cell _ rfl _ _ (rowsV_get f hs L k x hk j v hv)
  have e : (⟨b, off, none⟩ : Addr).add (k * s + j) = (⟨b, off + k * s, none⟩ : Addr).add j := by
    simp only [Addr.add_lit, Nat.add_assoc]
  rw [← e]
  exact this
end Go.Proofs.Ytinfbaflkjghhaa
/- Pieces of slices: the operation s[i:k]. -/
namespace Go.Proofs.Ytinfbaflkjghhaa
open Go.RowKit Go.Deep
theorem exec_slice_both {P : Program} {ev : Operand → Value} {o : Oper} {w : World} (t e : TypeId) (x lo hi : Operand) (ho : o.op = .slice t x (some lo) (some hi) none) (hu : P.underlying t = some (.slice e)) {s : Nat} (hs : (P.info? e).map (·.size) = some s)
    {A : Option Addr} {n c i k : Nat} (hx : ev x = .slice A n c) (hl : ev lo = .int .i64 (i : Int)) (hk : ev hi = .int .i64 (k : Int)) (hik : i ≤ k) (hkc : k ≤ c) : (execOp ev o).run P w = .ok (.value (.slice (if c = i then A else A.map (·.add (i * s))) (k - i) (c - i))) w := by
  cases hq : P.info? e with
  | none => simp [hq] at hs
  | some ie =>
    have hi' : ie.size = s := by simpa [hq] using hs
    have h1 : (Instr.slice t (.slice A n c) (some (.int .i64 (i : Int))) (some (.int .i64 (k : Int))) none).run P w = .ok (.slice (if c = i then A else A.map (·.add (i * s))) (k - i) (c - i)) w := by
      have hb : (Instr.sliceBound (.int .i64 (k : Int)) c .sliceAcap).run P w = .ok (k : Int).toNat w := run_sliceBound _ _ _ _ _ (Int.natCast_nonneg k) (by omega)
      have hb2 : (Instr.sliceBound (.int .i64 (i : Int)) k .sliceB).run P w = .ok (i : Int).toNat w := run_sliceBound _ _ _ _ _ (Int.natCast_nonneg i) (by omega)
      simp only [Instr.slice, Sem.run_bind, run_underlying hu, Result.andThen_ok, Instr.sliceBounds, Sem.run_pure, if_true, hb, sizeOf, typeInfo, hq, Int.toNat_natCast]
      simp [hq, hi', hb2]
    unfold execOp
    simp only [ho, Option.map_none, Option.map_some, hx, hk, hl, Sem.run_bind, Sem.run_pure, Result.andThen_ok]
    rw [show (Instr.sliceAt t (.slice A n c) (some (.int .i64 (i : Int))) (some (.int .i64 (k : Int))) none).run P w = (Instr.slice t (.slice A n c) (some (.int .i64 (i : Int))) (some (.int .i64 (k : Int))) none).run P w from by simp [Instr.sliceAt, run_underlying hu], h1]
    rfl
theorem exec_slice_as {P : Program} {ev : Operand → Value} {o : Oper} {w : World} (t e : TypeId) (x lo hi : Operand) (ho : o.op = .slice t x (some lo) (some hi) none) (hu : P.underlying t = some (.slice e)) {s : Nat} (hs : (P.info? e).map (·.size) = some s)
    {A A' : Option Addr} {n c i k m c' : Nat} (hx : ev x = .slice A n c) (hl : ev lo = .int .i64 (i : Int)) (hk : ev hi = .int .i64 (k : Int)) (hik : i ≤ k) (hkc : k ≤ c) (hA : (if c = i then A else A.map (·.add (i * s))) = A') (hm : k - i = m) (hc : c - i = c') : (execOp ev o).run P w = .ok (.value (.slice A' m c')) w := by
  subst hA hm hc
  exact exec_slice_both t e x lo hi ho hu hs hx hl hk hik hkc
theorem exec_slice_low_as {P : Program} {ev : Operand → Value} {o : Oper} {w : World} (t e : TypeId) (x lo : Operand) (ho : o.op = .slice t x (some lo) none none) (hu : P.underlying t = some (.slice e)) {s : Nat} (hs : (P.info? e).map (·.size) = some s)
    {A A' : Option Addr} {n c k m c' : Nat} (hx : ev x = .slice A n c) (hk : ev lo = .int .i64 (k : Int)) (hkn : k ≤ n) (hA : (if c = k then A else A.map (·.add (k * s))) = A') (hm : n - k = m) (hc : c - k = c') : (execOp ev o).run P w = .ok (.value (.slice A' m c')) w := by
  subst hA hm hc
  exact exec_slice_low t e x lo ho hu hs hx hk hkn
end Go.Proofs.Ytinfbaflkjghhaa
/- A region that draws its order, whose last operations (ts) come behind all others: those may turn what the others read. -/
namespace Go.Proofs.Ytinfbaflkjghhaa
open Go.RowKit
section
variable {P : Program} {ops : Array Oper} {Q : Exit → Act → World → Prop} {md : Region.Mode} {S : Nat → Prop} {ts : List Nat}
/-- Each of ts comes behind i. -/
def tailAll (md : Region.Mode) (ops : Array Oper) (ts : List Nat) (i : Nat) : Bool :=
  ts.all fun t => match ops[t]? with
    | some ot => ot.after.toList.any (fun e => Region.binds md e && e.on == i)
    | none => true
theorem tailAll_spec {i : Nat} (h : tailAll md ops ts i = true) : ∀ j oj, ops[j]? = some oj → j ∈ ts → ∃ e ∈ oj.after, Region.binds md e = true ∧ e.on = i := by
  intro j oj hj hm
  have h1 := List.all_eq_true.1 h j hm
  rw [hj] at h1
  obtain ⟨e, he, h2⟩ := List.any_eq_true.1 h1
  rw [Bool.and_eq_true, beq_iff_eq] at h2
  exact ⟨e, Array.mem_toList_iff.1 he, h2⟩
/-- Whatever order is picked from here on, in this world or in one that it has grown to; behind every operation only what S lets has turned. -/
def wpT (P : Program) (md : Region.Mode) (ops : Array Oper) (S : Nat → Prop) (ts : List Nat) (Q : Exit → Act → World → Prop) : Nat → Array Bool → Act → World → Prop
  | 0, listed, a, w => Region.ready md ops listed = [] ∧ ∀ w', Ext w w' → Q .normal a w'
  | fuel + 1, listed, a, w =>
    (Region.ready md ops listed = [] → ∀ w', Ext w w' → Q .normal a w') ∧
    ∀ w', Ext w w' → ∀ i ∈ Region.ready md ops listed, wpOp P ops Q i (fun a' w'' => (i ∉ ts → Kept S w' w'') ∧ wpT P md ops S ts Q fuel (listed.setIfInBounds i true) a' w'') a w'
theorem wpT.up : ∀ {fuel : Nat} {listed : Array Bool} {a : Act} {w w' : World}, wpT P md ops S ts Q fuel listed a w → Ext w w' → wpT P md ops S ts Q fuel listed a w'
  | 0, _, _, _, _, h, hw => ⟨h.1, fun w'' h' => h.2 w'' (hw.trans h')⟩
  | _ + 1, _, _, _, _, h, hw => ⟨fun h0 w'' h' => h.1 h0 w'' (hw.trans h'), fun w'' h' => h.2 w'' (hw.trans h')⟩
theorem wpAny_of_T : ∀ (fuel : Nat) (listed : Array Bool) (a : Act) (w : World), wpT P md ops S ts Q fuel listed a w → wpAny P md ops Q fuel listed a w
  | 0, _, _, w, h => ⟨h.1, h.2 w (Ext.refl w)⟩
  | fuel + 1, _, _, w, h => ⟨fun h0 => h.1 h0 w (Ext.refl w), fun i hi => wpOp_mono (fun a' w' h' => wpAny_of_T fuel _ a' w' h'.2) (h.2 w (Ext.refl w) i hi)⟩
theorem wpT_first {i : Nat} {oi : Oper} {v : Value} (hi : ops[i]? = some oi) (hsel : ∀ (j : Nat) (o : Oper) cs b, ops[j]? = some o → o.op ≠ .select cs b)
    (hQ : ∀ c a w, Q (.panic c) (a.put oi.dst v) w → Q (.panic c) a w) (hts : ∀ j oj, ops[j]? = some oj → j ∈ ts → ∃ e ∈ oj.after, Region.binds md e = true ∧ e.on = i) :
    ∀ (fuel : Nat) (listed : Array Bool) (a : Act) (w : World),
      (∀ j oj, ops[j]? = some oj → j ≠ i → listed.getD j true = false → (∀ e ∈ oj.after, Region.binds md e = true → e.on ≠ i) → oi.apart ops oj = true) →
      i ∈ Region.ready md ops listed → YieldsR P ops S oi v a w →
      wpT P md ops S ts Q fuel (listed.setIfInBounds i true) (a.put oi.dst v) w → wpT P md ops S ts Q (fuel + 1) listed a w := by
  intro fuel
  induction fuel with
  | zero =>
    intro listed a w _ hr hy H
    refine ⟨fun h => (by rw [h] at hr; cases hr), fun w1 hw1 j hj => ?_⟩
    by_cases hji : j = i
    · subst hji
      exact (hy.up (Kept.of_ext hw1)).wpOp hi fun w2 hw2 => ⟨fun _ => Kept.of_ext hw2, H.up (hw1.trans hw2)⟩
    · have := ready_mono hj hji
      rw [H.1] at this
      cases this
  | succ fuel ih =>
    intro listed a w hfree hr hy H
    refine ⟨fun h => (by rw [h] at hr; cases hr), fun w1 hw1 j hj => ?_⟩
    by_cases hji : j = i
    · subst hji
      exact (hy.up (Kept.of_ext hw1)).wpOp hi fun w2 hw2 => ⟨fun _ => Kept.of_ext hw2, H.up (hw1.trans hw2)⟩
    · have h1 := H.2 w1 hw1 j (ready_mono hj hji)
      obtain ⟨hjun, oj, hoj, hall⟩ := mem_ready.1 hj
      have hnot : ∀ e ∈ oj.after, Region.binds md e = true → e.on ≠ i := fun e he hb heq => by
        have h1 := hall e he hb
        have h0 := (mem_ready.1 hr).1
        rw [heq] at h1
        rcases Nat.lt_or_ge i listed.size with h' | h'
        · simp [h'] at h0 h1
          rw [h0] at h1
          cases h1
        · simp [Array.getElem?_eq_none h'] at h1
      have hjt : j ∉ ts := fun hm => by
        obtain ⟨e, he, hb, heq⟩ := hts j oj hoj hm
        exact hnot e he hb heq
      have h2 := wpOp_swap hoj (hfree j oj hoj hji hjun hnot) (fun cs b => hsel i oi cs b hi) (fun cs b => hsel j oj cs b hoj) hQ h1
      have hfree' : ∀ k ok, ops[k]? = some ok → k ≠ i → (listed.setIfInBounds j true).getD k true = false →
          (∀ e ∈ ok.after, Region.binds md e = true → e.on ≠ i) → oi.apart ops ok = true := fun k ok hk hki hun hno => by
        refine hfree k ok hk hki ?_ hno
        by_cases hjk : j = k
        · subst hjk
          exact hjun
        · rw [getD_set_ne true hjk] at hun
          exact hun
      refine wpOp_mono (fun a' w' h3 => ⟨fun _ => h3.2.1 hjt, ih (listed.setIfInBounds j true) a' w' hfree' (ready_mono hr (Ne.symm hji)) ?_ ?_⟩) h2
      · exact (hy.up ((Kept.of_ext hw1).trans (h3.2.1 hjt))).same h3.1.1 h3.1.2
      · rw [Array.setIfInBounds_comm _ _ hji]
        exact h3.2.2
/-- Take operation number i next, whose value is the same in every later world: 'apply Exists.intro; apply And.intro' behind it. -/
theorem wpT_next (i : Nat) (d : Option Tmp) (ht : tailAll md ops ts i = true) {oi : Oper} {fuel : Nat} {listed : Array Bool} {a : Act} {w : World} (hi : ops[i]? = some oi) (hd : oi.dst = d)
    (hs : Region.noSelect ops = true) (hf : Region.free md ops listed i = true) (hr : (Region.ready md ops listed).contains i = true)
    (hQ : ∀ v c a w, Q (.panic c) (a.put d v) w → Q (.panic c) a w)
    (h : ∃ v, YieldsR P ops S oi v a w ∧ wpT P md ops S ts Q fuel (listed.setIfInBounds i true) (a.put d v) w) : wpT P md ops S ts Q (fuel + 1) listed a w := by
  subst hd
  obtain ⟨v, hy, hk⟩ := h
  exact wpT_first hi (Region.noSelect_spec hs) (hQ v) (tailAll_spec ht) fuel listed a w (Region.free_spec hi hf) (by simpa using hr) hy hk
/-- Take operation number i, the only one that is ready, a call: whatever it does. -/
theorem wpT_call (i : Nat) (d : Option Tmp) {oi : Oper} {fuel : Nat} {listed : Array Bool} {a : Act} {w : World} {f : FuncId} {args : Array Value} (hi : ops[i]? = some oi) (hd : oi.dst = d)
    (hr : Region.ready md ops listed = [i]) (hw : Region.wanted oi (yielded ops a.tmps) = true)
    (he : ∀ w', (execOp a.eval oi).run P w' = .ok (.enter f args) w')
    (h : ∀ w', Ext w w' → Calls P f args w' fun e w'' => ∃ v, e = .returned v ∧ Kept S w' w'' ∧ wpT P md ops S ts Q fuel (listed.setIfInBounds i true) (a.put d v) w'') : wpT P md ops S ts Q (fuel + 1) listed a w := by
  subst hd
  refine ⟨fun h0 => (by rw [h0] at hr; cases hr), fun w1 hw1 j hj => ?_⟩
  rw [hr] at hj
  obtain rfl := List.mem_singleton.1 hj
  unfold Go.wpOp
  simp only [hi, hw, if_true]
  refine .inl ?_
  unfold Oper.wp
  rw [he w1]
  refine Calls.mono (h w1 hw1) fun e w'' hx => ?_
  obtain ⟨v, rfl, hk, hn⟩ := hx
  exact ⟨fun _ => hk, hn⟩
/-- Take operation number i, the only one that is ready, whatever it does: by the laws of operations. -/
theorem wpT_only (i : Nat) {oi : Oper} {fuel : Nat} {listed : Array Bool} {a : Act} {w : World} (hi : ops[i]? = some oi)
    (hr : Region.ready md ops listed = [i]) (hw : Region.wanted oi (yielded ops a.tmps) = true)
    (h : ∀ w', Ext w w' → Oper.wp P oi a w' (fun a' w'' => (i ∉ ts → Kept S w' w'') ∧ wpT P md ops S ts Q fuel (listed.setIfInBounds i true) a' w'') Q) : wpT P md ops S ts Q (fuel + 1) listed a w := by
  refine ⟨fun h0 => (by rw [h0] at hr; cases hr), fun w1 hw1 j hj => ?_⟩
  rw [hr] at hj
  obtain rfl := List.mem_singleton.1 hj
  unfold Go.wpOp
  simp only [hi, hw, if_true]
  exact .inl (h w1 hw1)
/-- Take operation number i, the only one that is ready, no call: it answers and may turn the world. -/
theorem wpT_run (i : Nat) (d : Option Tmp) {oi : Oper} {fuel : Nat} {listed : Array Bool} {a : Act} {w : World} (hi : ops[i]? = some oi) (hd : oi.dst = d)
    (hr : Region.ready md ops listed = [i]) (hw : Region.wanted oi (yielded ops a.tmps) = true)
    (h : ∀ w', Ext w w' → ∃ v w'', (execOp a.eval oi).run P w' = .ok (.value v) w'' ∧ Kept S w' w'' ∧ wpT P md ops S ts Q fuel (listed.setIfInBounds i true) (a.put d v) w'') : wpT P md ops S ts Q (fuel + 1) listed a w := by
  subst hd
  refine wpT_only i hi hr hw fun w' hx => ?_
  obtain ⟨v, w'', h1, h2, h3⟩ := h w' hx
  unfold Oper.wp
  rw [h1]
  exact ⟨fun _ => h2, h3⟩
theorem wpT_done {listed : Array Bool} {a : Act} {w : World} (hr : Region.ready md ops listed = []) (h : ∀ w', Ext w w' → Q .normal a w') : ∀ fuel, wpT P md ops S ts Q fuel listed a w
  | 0 => ⟨hr, h⟩
  | _ + 1 => ⟨fun _ => h, by rw [hr]; simp⟩
/-- The beginning. -/
theorem wp_region_tail (S : Nat → Prop) (ts : List Nat) {id : Nat} {a : Act} {w : World} (hm : P.follows .mixedOrders = true)
    (h : wpT P .any ops S ts Q ops.size (Array.replicate ops.size false) a w.drew) : (Code.region id ops true).wp P Q a w :=
  wp_region_any hm (wpAny_of_T _ _ _ _ h)
/-- Take operation number i of ts, the only one that is ready, a store: whatever it turns. -/
theorem wpT_last (i : Nat) {oi : Oper} {fuel : Nat} {listed : Array Bool} {a : Act} {w : World} (hi : ops[i]? = some oi) (hd : oi.dst = none)
    (hr : Region.ready md ops listed = [i]) (hw : Region.wanted oi (yielded ops a.tmps) = true) (hm : i ∈ ts)
    (h : ∀ w', Ext w w' → ∃ w'', (execOp a.eval oi).run P w' = .ok .skip w'' ∧ wpT P md ops S ts Q fuel (listed.setIfInBounds i true) a w'') : wpT P md ops S ts Q (fuel + 1) listed a w := by
  refine wpT_only i hi hr hw fun w' hx => ?_
  obtain ⟨w'', h1, h3⟩ := h w' hx
  unfold Oper.wp
  rw [h1]
  refine ⟨fun hn => absurd hm hn, ?_⟩
  rw [hd]
  exact h3
end
end Go.Proofs.Ytinfbaflkjghhaa
/- A region that draws its order, by an invariant: each operation's value meets a predicate that stays true while memory grows; whatever the order, all meet theirs at the end. -/
namespace Go.Proofs.Ytinfbaflkjghhaa
open Go.RowKit
section
variable {P : Program} {ops : Array Oper} {Q : Exit → Act → World → Prop} {md : Region.Mode}
/-- What an operation comes to: a value that meets T, and a world that has only grown. -/
def OutT (P : Program) (T : Value → World → Prop) (w : World) : Result Next → Prop
  | .ok (.value u) w' => Ext w w' ∧ T u w'
  | .ok (.enter f args) w' => Calls P f args w' fun e w'' => ∃ v, e = .returned v ∧ Ext w w'' ∧ T v w''
  | _ => False
theorem OutT.wp {o : Oper} {T : Value → World → Prop} {a : Act} {w : World} {K : Act → World → Prop} (h : OutT P T w ((execOp a.eval o).run P w)) (hK : ∀ v w', Ext w w' → T v w' → K (a.put o.dst v) w') : o.wp P a w K Q := by
  unfold Oper.wp
  generalize (execOp a.eval o).run P w = r at *
  cases r with
  | ok n w' =>
    cases n with
    | value u => exact hK _ _ h.1 h.2
    | enter f args =>
      refine Calls.mono h fun e w'' he => ?_
      obtain ⟨v, rfl, h1, h2⟩ := he
      exact hK _ _ h1 h2
    | _ => exact h.elim
  | halt x w' => exact h.elim
end
end Go.Proofs.Ytinfbaflkjghhaa
/- A region that draws its order, by an invariant, with operations behind it (from n on) that wait for all of the first n: whatever the order of the first n, all meet theirs; then the others are walked. -/
namespace Go.Proofs.Ytinfbaflkjghhaa
open Go.RowKit
section
variable {P : Program} {ops : Array Oper} {Q : Exit → Act → World → Prop} {md : Region.Mode}
end
end Go.Proofs.Ytinfbaflkjghhaa
/- Rows of the call's own, written to: a range of cells put in; an element set. -/
namespace Go.Proofs.Ytinfbaflkjghhaa
open Go.RowKit
def putR (cs : List Value) (o : Nat) (vs : List Value) : List Value := cs.take o ++ (vs ++ cs.drop (o + vs.length))
theorem putR_nil (cs : List Value) (o : Nat) : putR cs o [] = cs := by simp [putR]
theorem putR_cons (cs : List Value) (o : Nat) (v : Value) (vs : List Value) (h : o < cs.length) : putR (cs.set o v) (o + 1) vs = putR cs o (v :: vs) := by
  unfold putR
  have e1 : (cs.set o v).take (o + 1) = cs.take o ++ [v] := by
    rw [List.take_set, List.take_add_one, List.getElem?_eq_getElem h]
    simp only [Option.toList_some]
    rw [List.set_append_right _ _ (by rw [List.length_take]; omega)]
    rw [show o - (cs.take o).length = 0 by rw [List.length_take]; omega]
    rfl
  rw [e1, List.drop_set_of_lt (by omega), List.length_cons, List.append_assoc, show o + 1 + vs.length = o + (vs.length + 1) by omega]
  rfl
theorem setCells_block (g : Nat) : ∀ (vs : List Value) (o : Nat) (w : World) (i : Nat), i ≠ g → (w.setCells g o vs).heap[i]? = w.heap[i]?
  | [], _, _, _, _ => rfl
  | v :: r, o, w, i, h => by
    rw [World.setCells, setCells_block g r (o + 1) _ i h]
    exact Below.heap_setCell w ⟨g, o, none⟩ v i h
theorem setCells_size (g : Nat) : ∀ (vs : List Value) (o : Nat) (w : World), (w.setCells g o vs).heap.size = w.heap.size
  | [], _, _ => rfl
  | v :: r, o, w => by
    rw [World.setCells, setCells_size g r (o + 1) _]
    simp [World.setCell]
theorem setCells_env (g : Nat) : ∀ (vs : List Value) (o : Nat) (w : World), (w.setCells g o vs).os = w.os ∧ (w.setCells g o vs).tape = w.tape ∧ (w.setCells g o vs).output = w.output
  | [], _, _ => ⟨rfl, rfl, rfl⟩
  | v :: r, o, w => by
    rw [World.setCells]
    exact setCells_env g r (o + 1) _
theorem kept_setCells {S : Nat → Prop} {w : World} {g : Nat} (hS : S g) (o : Nat) (vs : List Value) : Kept S w (w.setCells g o vs) :=
  ⟨(setCells_env g vs o w).1, (setCells_env g vs o w).2.1, (setCells_env g vs o w).2.2, Nat.le_of_eq (setCells_size g vs o w).symm, fun i _ hn => setCells_block g vs o w i (fun e => hn (e ▸ hS))⟩
theorem Whole.cells_ {g : Nat} {t : TypeId} : ∀ (vs : List Value) (o : Nat) (w : World) (cs : List Value), Whole w g t cs → o + vs.length ≤ cs.length → Whole (w.setCells g o vs) g t (putR cs o vs)
  | [], _, _, cs, h, _ => by rw [putR_nil]; exact h
  | v :: r, o, w, cs, h, hl => by
    rw [List.length_cons] at hl
    rw [World.setCells, ← putR_cons cs o v r (by omega)]
    exact Whole.cells_ r (o + 1) _ _ (h.set_ o v) (by rw [List.length_set]; omega)
theorem Whole.cells_far {w : World} {g g' : Nat} {t : TypeId} {cs : List Value} (h : Whole w g t cs) (hne : g ≠ g') (o : Nat) (vs : List Value) : Whole (w.setCells g' o vs) g t cs := (setCells_block g' vs o w g hne).trans h
theorem Whole.there_ {w : World} {g : Nat} {t : TypeId} {cs : List Value} (h : Whole w g t cs) (o n : Nat) (hl : o + n ≤ cs.length) : w.there g o n := fun j hj => by
  have hv : cs[o + j]? = some (cs[o + j]'(by omega)) := List.getElem?_eq_getElem (by omega)
  exact ⟨by rw [h.cell hv]; rfl, h.free _⟩
theorem own_cells_far {w : World} {lo k n g : Nat} {T : TypeId} {v : Value} {xs : List Value} (h : w.ownsRow lo T k v n xs) (hne : some g ≠ v.ownBlock) (o : Nat) (vs : List Value) : (w.setCells g o vs).ownsRow lo T k v n xs :=
  h.kept (row := some g) ⟨(setCells_env g vs o w).1, (setCells_env g vs o w).2.1, (setCells_env g vs o w).2.2, Nat.le_of_eq (setCells_size g vs o w).symm, fun i _ hk => setCells_block g vs o w i (fun e => hk (by rw [e]))⟩ (by first | exact hne | exact hne.symm | exact .inr hne | exact .inr hne.symm)
theorem own_cell_far {w : World} {lo k n g i : Nat} {T : TypeId} {v : Value} {xs : List Value} (h : w.ownsRow lo T k v n xs) (hne : some g ≠ v.ownBlock) (u : Value) : (w.setCell ⟨g, i, none⟩ u).ownsRow lo T k v n xs :=
  own_cells_far h hne i [u]
section
variable {α : Type} {f : α → List Value} {s : Nat}
end
theorem own_mk {W : World} {lo k n c g : Nat} {T : TypeId} {xs junk : List Value} (hw : Whole W g T (xs ++ junk)) (hlo : lo ≤ g) (hl : (xs ++ junk).length = c * k) (hnc : n ≤ c) (hcm : c ≤ maxLen) (hx : xs.length = n * k) :
    W.ownsRow lo T k (.slice (some ⟨g, 0, none⟩) n c) n xs :=
  ⟨hx, .inr ⟨g, c, (xs ++ junk).toArray, rfl, hlo, hw, hnc, hcm, by simpa using hl, by rw [← hx]; simp⟩⟩
theorem own_rds {W : World} {lo k n c : Nat} {T : TypeId} {A : Option Addr} {xs : List Value} (h : W.ownsRow lo T k (.slice A n c) n xs) : RdS W W.heap.size k A n c xs := by
  obtain ⟨A', c', e, hr⟩ := RdS.of_own h
  injection e with a1 a2 a3
  subst a1 a3
  exact hr
theorem own_lt {W : World} {lo k n c : Nat} {T : TypeId} {A : Option Addr} {xs : List Value} (h : W.ownsRow lo T k (.slice A n c) n xs) {a : Addr} (ha : A = some a) : lo ≤ a.block ∧ a.block < W.heap.size := by
  subst ha
  exact h.lt a.block rfl
/-- A row's block is of its own type. -/
theorem own_ne {W : World} {lo k n c g : Nat} {T T' : TypeId} {A : Option Addr} {xs cs : List Value} (h : W.ownsRow lo T k (.slice A n c) n xs) (hw : Whole W g T' cs) (hT : T' ≠ T) : some g ≠ (Value.slice A n c).ownBlock := by
  intro e
  rcases h.2 with ⟨h1, h2⟩ | ⟨g', cap, cur, h1, hb, hg, hnc, hcm, hcs, ht⟩
  · rw [h1] at e
    cases e
  · rw [h1] at e
    have e' : g = g' := Option.some.inj e
    subst e'
    unfold Whole at hw
    rw [hg] at hw
    injection hw with hw
    injection hw with _ ht
    exact hT ht.symm
theorem store_mid_run {P : Program} {ev : Operand → Value} {o : Oper} {w : World} (ty : TypeId) (x y : Operand) (ho : o.op = .store ty x y) (b off : Nat) (hx : ev x = .pointer (some ⟨b, off, none⟩))
    (cs : List Value) (hy : ev y = .agg cs.toArray) (ht : w.there b off cs.length) (hi : (P.info? ty).map (·.size) = some cs.length) (h1 : ∀ v ∈ cs, v.oneCell' = true) :
    (execOp ev o).run P w = .ok .skip (w.setCells b off cs) := by
  have h := run_storeAt_mid (P := P) w b off ty cs.toArray (by simpa using ht) (by simpa using hi) (all_oneCell_toArray h1)
  unfold execOp
  simp only [ho, hx, hy, Sem.run_bind, Sem.run_pure, Result.andThen_ok, h]
end Go.Proofs.Ytinfbaflkjghhaa
/- An operation of a drawn region, its side conditions told by themselves. -/
namespace Go.Proofs.Ytinfbaflkjghhaa
open Go.RowKit
theorem st0_ {α : Type} (a b : α) (l : List α) : (a :: l).set 0 b = b :: l := rfl
theorem st1_ {α : Type} (a b : α) (l : List α) (n : Nat) : (a :: l).set (n + 1) b = a :: l.set n b := rfl
theorem stA_ {α : Type} (l : List α) (i : Nat) (a : α) : l.toArray.setIfInBounds i a = (l.set i a).toArray := by simp only [List.setIfInBounds_toArray]
theorem opX_ {P : Program} {md : Region.Mode} {ops : Array Oper} {S : Nat → Prop} {Q : Exit → Act → World → Prop} (i d : Nat) {oi : Oper} {fuel : Nat} {listed : Array Bool} {L : List Value} {df : _} {w : World}
    (h : ∃ v, YieldsR P ops S oi v { tmps := L.toArray, defers := df } w ∧ wpR P md ops S Q fuel (listed.setIfInBounds i true) { tmps := (L.set d v).toArray, defers := df } w)
    (hi : ops[i]? = some oi := by simp only [List.getElem?_toArray, List.getElem?_cons_succ, List.getElem?_cons_zero]; exact rfl) (hd : oi.dst = some d := by rfl)
    (hs : Region.noSelect ops = true := by kernel_rfl) (hf : Region.free md ops listed i = true := by kernel_rfl) (hc : (Region.ready md ops listed).contains i = true := by kernel_rfl)
    (hQ : ∀ v c a w, Q (.panic c) (a.put (some d) v) w → Q (.panic c) a w := by exact fun _ _ _ _ h => h) : wpR P md ops S Q (fuel + 1) listed { tmps := L.toArray, defers := df } w := by
  obtain ⟨v, hy, h⟩ := h
  refine wpR_next i (some d) hi hd hs hf hc hQ ⟨v, hy, ?_⟩
  simpa only [Act.put, List.setIfInBounds_toArray] using h
theorem opR_ {P : Program} {md : Region.Mode} {ops : Array Oper} {S : Nat → Prop} {Q : Exit → Act → World → Prop} (i d : Nat) {oi : Oper} {fuel : Nat} {listed : Array Bool} {L : List Value} {df : _} {w : World} {v : Value}
    (hr : ∀ w', Kept S w w' → (execOp (Act.eval { tmps := L.toArray, defers := df }) oi).run P w' = .ok (.value v) w')
    (h : wpR P md ops S Q fuel (listed.setIfInBounds i true) { tmps := (L.set d v).toArray, defers := df } w)
    (hi : ops[i]? = some oi := by simp only [List.getElem?_toArray, List.getElem?_cons_succ, List.getElem?_cons_zero]; exact rfl) (hd : oi.dst = some d := by rfl) (hw : Region.wanted oi (yielded ops L.toArray) = true := by rfl)
    (hs : Region.noSelect ops = true := by kernel_rfl) (hf : Region.free md ops listed i = true := by kernel_rfl) (hc : (Region.ready md ops listed).contains i = true := by kernel_rfl)
    (hQ : ∀ v c a w, Q (.panic c) (a.put (some d) v) w → Q (.panic c) a w := by exact fun _ _ _ _ h => h) : wpR P md ops S Q (fuel + 1) listed { tmps := L.toArray, defers := df } w :=
  opX_ i d ⟨v, yr_run hw hr, h⟩ hi hd hs hf hc hQ
end Go.Proofs.Ytinfbaflkjghhaa
/- A range over a function whose iterator keeps one variable of its own in a block. -/
namespace Go.Proofs.Ytinfbaflkjghhaa
open Go.RowKit
/-- What a round keeps: the blocks of K. -/
structure KpS (K : Nat → Prop) (W W' : World) : Prop where
  size : W.heap.size ≤ W'.heap.size
  same : ∀ i, i < W.heap.size → K i → W'.heap[i]? = W.heap[i]?
theorem KpS.refl (K : Nat → Prop) (W : World) : KpS K W W := ⟨Nat.le_refl _, fun _ _ _ => rfl⟩
theorem KpS.trans {K : Nat → Prop} {A B C : World} (h : KpS K A B) (k : KpS K B C) : KpS K A C :=
  ⟨Nat.le_trans h.size k.size, fun i hi hk => (k.same i (Nat.lt_of_lt_of_le hi h.size) hk).trans (h.same i hi hk)⟩
theorem KpS.grown {K : Nat → Prop} {W W' : World} {row : Option Nat} (h : W.grownBy W' row) (hr : ∀ r, row = some r → ¬ K r) : KpS K W W' :=
  ⟨h.size, fun i hi hk => h.block i hi (fun e => hr i e.symm hk)⟩
theorem KpS.below {K : Nat → Prop} {n₀ : Nat} {W W' : World} (h : KpS K W W') : W.heap.size ≤ W'.heap.size := h.size
/-- It abides new blocks, and turns of those of T. -/
def AbS (T : Nat → Prop) (I : World → Prop) : Prop := ∀ W W' r, I W → W.grownBy W' r → (∀ q, r = some q → T q) → I W'
theorem AbS.al {T : Nat → Prop} {I : World → Prop} (h : AbS T I) {W : World} (hi : I W) (o : Obj) : I (W.alloc o) :=
  h W _ none hi (World.grownBy_alloc W o none) (fun _ e => by cases e)
theorem AbS.po {T : Nat → Prop} {I : World → Prop} (h : AbS T I) {W : World} (hi : I W) (r : Nat) (o : Obj) (h1 : T r) : I (W.putObj r o) :=
  h W _ (some r) hi (grownBy_putObj' W r o) (fun q e => by cases e; exact h1)
theorem AbS.sc {T : Nat → Prop} {I : World → Prop} (h : AbS T I) {W : World} (hi : I W) (r : Nat) (v : Value) (h1 : T r) : I (W.setCell ⟨r, 0, none⟩ v) :=
  h W _ (some r) hi (grownBy_setCell' W r v) (fun q e => by cases e; exact h1)
theorem AbS.sub {T T' : Nat → Prop} {I : World → Prop} (h : AbS T I) (ht : ∀ q, T' q → T q) : AbS T' I := fun W W' r hi hg hr => h W W' r hi hg (fun q e => ht q (hr q e))
/-- An iterator over L, called in W: it turns blocks of T alone; a round keeps those of K. -/
def ItS {α : Type} (P : Program) (g : Nat) (lb : Array Value) (encs : List α → α → Array Value) (K T : Nat → Prop) (L : List α) (W : World) : Prop :=
  ∀ (l : Nat) (J Jx : List α → World → Prop), (∀ p, AbS T (J p)) → (∀ p, AbS T (Jx p)) →
    (∀ pre x W1, J pre W1 → pre ++ [x] <+: L → W.heap.size ≤ W1.heap.size → (∀ i, T i → i < W1.heap.size) → YieldAt Fence.wide 0 P l (encs pre x) W1 fun e W' =>
      (e = .returned (.bool true) ∧ J (pre ++ [x]) W' ∧ KpS K W1 W') ∨ (e = .returned (.bool false) ∧ Jx (pre ++ [x]) W' ∧ KpS K W1 W')) →
    J [] W →
    CallsIn Fence.wide 0 P g (#[.func (.yield l) #[] #[]] ++ lb) W fun e W' => (∃ v, e = .returned v) ∧ (J L W' ∨ (∃ pre, pre <+: L ∧ Jx pre W'))
/-- How a round's body may be left. -/
def postS {α : Type} (K : Nat → Prop) (I : List α → World → Prop) (Ix : Code → List α → World → Prop) (xs : List α) (W : World) : Exit → Act → World → Prop
  | .normal, _, W' => KpS K W W' ∧ I xs W'
  | .ret, _, W' => KpS K W W' ∧ Ix .ret xs W'
  | .exit id, _, W' => KpS K W W' ∧ Ix (.exit id) xs W'
  | .goto t, _, W' => KpS K W W' ∧ Ix (.goto t) xs W'
  | .panic _, _, _ => False
  | .outgrown, _, _ => False
variable {P : Program}
theorem wpIn_roundS {α : Type} {g : Operand} {ps : Array Tmp} {assign body : Code} {Q : Exit → Act → World → Prop} {a : Act} {w : World}
    {gf : Nat} {lb : Array Value} (hg : a.eval g = .func (.func gf) #[] lb) (eg : ∀ args w, (callFunc gf args).run P w = .ok (.enter gf args) w)
    {encs : List α → α → Array Value} (hps : ∀ p x, (encs p x).size = ps.size) (K T : Nat → Prop) {L : List α} (hnk1 : ¬ K (w.heap.size + 1)) (hnt : ¬ T w.heap.size ∧ ¬ T (w.heap.size + 1))
    (hit : ∀ r, ItS P gf lb encs K T L ((w.alloc (.deferred (some []))).alloc (.loop r)))
    (I : List α → World → Prop) (I1 : List α → α → Act → World → Prop) (Ix : Code → List α → World → Prop) (hI : ∀ p, AbS (fun i => T i ∨ i = w.heap.size ∨ i = w.heap.size + 1) (I p)) (hI1 : ∀ p x a', AbS (fun i => i = w.heap.size + 1) (I1 p x a')) (hIx : ∀ c p, AbS (fun i => T i ∨ i = w.heap.size ∨ i = w.heap.size + 1) (Ix c p)) (h0 : I [] w)
    (hassign : ∀ (l : Nat) (pre : List α) (x : α) (W : World) (R : Act → World → Prop), I pre W → pre ++ [x] <+: L → w.heap.size + 2 ≤ W.heap.size → (∀ i, T i → i < W.heap.size) → (∀ a' W', KpS (fun i => K i ∨ i = w.heap.size ∨ i = w.heap.size + 1) W W' → I1 pre x a' W' → R a' W') →
      assign.wpIn (Fence.wide.inRound l) 0 P (Exit.then R (fun _ _ _ => False)) { tmps := (ps.zip (encs pre x)).foldl (fun t (p, v) => t.setIfInBounds p v) a.tmps, defers := [] } W)
    (hbody : ∀ (l : Nat) (pre : List α) (x : α) (a' : Act) (W : World), I1 pre x a' W → pre ++ [x] <+: L → w.heap.size + 2 ≤ W.heap.size → (∀ i, T i → i < W.heap.size) →
      body.wpIn (Fence.wide.inRound l) 0 P (postS (fun i => K i ∨ i = w.heap.size ∨ i = w.heap.size + 1) I Ix (pre ++ [x]) W) a' W)
    (hdone : ∀ (W : World), I L W → W.heap[w.heap.size]? = some (.deferred (some [])) → Q .normal { a with defers := { target := .collected w.heap.size, args := #[] } :: a.defers } W)
    (hstop : ∀ (c : Code) (pre : List α) (W : World), pre <+: L → Ix c pre W → W.heap[w.heap.size]? = some (.deferred (some [])) → c.wpIn Fence.wide 0 P Q { a with defers := { target := .collected w.heap.size, args := #[] } :: a.defers } W) :
    (Code.rangeFunc g ps assign body).wpIn Fence.wide 0 P Q a w := by
  refine wpIn_rangeFunc fun fn hfn => ?_
  obtain ⟨rc, hrc⟩ : ∃ rc : LoopState → Option Code → Loop, rc = fun st pe => { state := st, pending := pe, fn, tmps := a.tmps, params := ps, assign, body, defers := w.heap.size } := ⟨_, rfl⟩
  obtain ⟨W1, hW1⟩ : ∃ z, (w.alloc (.deferred (some []))).alloc (.loop (rc .ready none)) = z := ⟨_, rfl⟩
  obtain ⟨b, hb⟩ : ∃ z, w.heap.size = z := ⟨_, rfl⟩
  have hs1 : W1.heap.size = b + 2 := by rw [← hW1, World.size_alloc, World.size_alloc, hb]
  have hl1 : W1.heap[b + 1]? = some (.loop (rc .ready none)) := by
    rw [← hW1, ← hb]; have := World.alloc_heap_new (w.alloc (.deferred (some []))) (.loop (rc .ready none)); rwa [World.size_alloc] at this
  have hd1 : W1.heap[b]? = some (.deferred (some [])) := by
    rw [← hW1, ← hb]; exact (Below.heap_alloc _ _ _ (by simp)).trans (World.alloc_heap_new w _)
  have hi1 : I [] W1 := by rw [← hW1]; exact (hI []).al ((hI []).al h0 _) _
  have hit1 := hit (rc .ready none)
  rw [hW1] at hit1
  rw [hb] at hnk1 hnt hI hI1 hIx hassign hbody hdone hstop
  have hrun : (Instr.enterLoop fn a.tmps ps assign body none).run P w = .ok (b + 1, [{ target := .collected b, args := #[] }]) W1 := by
    rw [← hW1, hrc, ← hb]; exact run_enterLoop_outer _ _ _ _ _
  clear hW1 h0 hit
  refine ⟨b + 1, [{ target := .collected b, args := #[] }], W1, { target := .fn (.func gf) lb, args := #[.func (.yield (b + 1)) #[] #[]] }, W1, gf, #[.func (.yield (b + 1)) #[] #[]] ++ lb, W1, hrun, ?_, fun _ _ => trivial, ?_, fun h => (by cases h), ?_⟩
  · simp only [resolve, hg]
    simp [go_sem]
  · simp [invoke, go_sem, eg]
  refine (hit1 (b + 1)
    (fun p W => I p W ∧ W.heap[b + 1]? = some (.loop (rc .ready none)) ∧ W.heap[b]? = some (.deferred (some [])))
    (fun p W => ∃ c, Ix c p W ∧ W.heap[b + 1]? = some (.loop (rc .done (some c))) ∧ W.heap[b]? = some (.deferred (some [])))
    (fun p A B r h hgr hrT => ?_) (fun p A B r h hgr hrT => ?_) ?_ ⟨hi1, hl1, hd1⟩).mono ?_
  · have hx := fun (i : Nat) (o : Obj) (hi : ¬ T i) (ho : A.heap[i]? = some o) => (hgr.block i (Array.getElem?_eq_some_iff.1 ho).1 (fun e => hi (hrT i e.symm))).trans ho
    exact ⟨hI p A B _ h.1 hgr (fun q e => .inl (hrT q e)), hx _ _ hnt.2 h.2.1, hx _ _ hnt.1 h.2.2⟩
  · have hx := fun (i : Nat) (o : Obj) (hi : ¬ T i) (ho : A.heap[i]? = some o) => (hgr.block i (Array.getElem?_eq_some_iff.1 ho).1 (fun e => hi (hrT i e.symm))).trans ho
    obtain ⟨c, h1, h2, h3⟩ := h
    exact ⟨c, hIx c p A B _ h1 hgr (fun q e => .inl (hrT q e)), hx _ _ hnt.2 h2, hx _ _ hnt.1 h3⟩
  · rintro pre x W ⟨hi, hl, hd⟩ hlen hsz hTs
    rw [hs1] at hsz
    have hy := run_yield (P := P) (args := encs pre x) hl (by rw [hrc]; exact hps pre x)
    rw [hrc] at hy
    refine ⟨fn, _, assign, body, hy, roundIn_of_wpIn hfn (hassign _ pre x W _ hi hlen (by omega) hTs ?_)⟩
    intro a' Wa hka ha
    replace hl := (hka.same _ (Array.getElem?_eq_some_iff.1 hl).1 (.inr (.inr rfl))).trans hl
    replace hd := (hka.same _ (Array.getElem?_eq_some_iff.1 hd).1 (.inr (.inl rfl))).trans hd
    have hlt := (Array.getElem?_eq_some_iff.1 hl).1
    refine ⟨_, run_beginRound hl (by rw [hrc]), ?_⟩
    obtain ⟨Wb, hWb⟩ : ∃ z, Wa.putObj (b + 1) (.loop { rc .ready none with state := .busy }) = z := ⟨_, rfl⟩
    have hlb : Wb.heap[b + 1]? = some (.loop { rc .ready none with state := .busy }) := by rw [← hWb]; exact World.putObj_heap_same hlt
    have hdb : Wb.heap[b]? = some (.deferred (some [])) := by rw [← hWb]; exact (World.putObj_heap_other (by omega)).trans hd
    have hkb : KpS K Wa Wb := by rw [← hWb]; exact KpS.grown (grownBy_putObj' _ _ _) (fun r e => by cases e; exact hnk1)
    have hab : I1 pre x a' Wb := by rw [← hWb]; exact (hI1 pre x a').po ha _ _ rfl
    rw [hWb]
    clear hWb
    have hka' : KpS K W Wa := ⟨hka.size, fun i h1 h2 => hka.same i h1 (.inl h2)⟩
    have fin : ∀ (jump : Option Code) (W3 : World), KpS (fun i => K i ∨ i = b ∨ i = b + 1) Wb W3 →
        (Instr.endRound (b + 1) jump).run P W3 = .ok (.bool jump.isNone) (W3.putObj (b + 1) (.loop (rc (if jump.isNone then .ready else .done) jump))) ∧
        (W3.putObj (b + 1) (.loop (rc (if jump.isNone then .ready else .done) jump))).heap[b + 1]? = some (.loop (rc (if jump.isNone then .ready else .done) jump)) ∧
        (W3.putObj (b + 1) (.loop (rc (if jump.isNone then .ready else .done) jump))).heap[b]? = some (.deferred (some [])) ∧
        KpS K W (W3.putObj (b + 1) (.loop (rc (if jump.isNone then .ready else .done) jump))) := fun jump W3 hk3 => by
      have hl3 := (hk3.same _ (Array.getElem?_eq_some_iff.1 hlb).1 (.inr (.inr rfl))).trans hlb
      have hd3 := (hk3.same _ (Array.getElem?_eq_some_iff.1 hdb).1 (.inr (.inl rfl))).trans hdb
      have he := run_endRound (P := P) jump hl3
      rw [hrc] at he ⊢
      exact ⟨he, World.putObj_heap_same (Array.getElem?_eq_some_iff.1 hl3).1, (World.putObj_heap_other (by omega)).trans hd3,
        hka'.trans (hkb.trans (KpS.trans ⟨hk3.size, fun i h1 h2 => hk3.same i h1 (.inl h2)⟩ (KpS.grown (grownBy_putObj' _ _ _) (fun r e => by cases e; exact hnk1))))⟩
    refine wpIn_mono (hbody _ pre x a' Wb hab hlen (by have h1 := hka.size; have h2 := hkb.size; omega) (fun i hi => by have h1 := hka.size; have h2 := hkb.size; have h3 := hTs i hi; omega)) ?_
    rintro e a3 W3 hp
    cases e with
    | normal =>
      obtain ⟨h1, h2, h3, h4⟩ := fin none W3 hp.1
      exact ⟨_, _, h1, .inl ⟨rfl, ⟨(hI _).po hp.2 _ _ (.inr (.inr rfl)), h2, h3⟩, h4⟩⟩
    | ret =>
      obtain ⟨h1, h2, h3, h4⟩ := fin (some .ret) W3 hp.1
      exact ⟨_, _, h1, .inr ⟨rfl, ⟨.ret, (hIx _ _).po hp.2 _ _ (.inr (.inr rfl)), h2, h3⟩, h4⟩⟩
    | exit id =>
      obtain ⟨h1, h2, h3, h4⟩ := fin (some (.exit id)) W3 hp.1
      exact ⟨_, _, h1, .inr ⟨rfl, ⟨.exit id, (hIx _ _).po hp.2 _ _ (.inr (.inr rfl)), h2, h3⟩, h4⟩⟩
    | goto t =>
      obtain ⟨h1, h2, h3, h4⟩ := fin (some (.goto t)) W3 hp.1
      exact ⟨_, _, h1, .inr ⟨rfl, ⟨.goto t, (hIx _ _).po hp.2 _ _ (.inr (.inr rfl)), h2, h3⟩, h4⟩⟩
    | panic ch => exact hp.elim
    | outgrown => exact hp.elim
  · rintro e W2 ⟨⟨v, rfl⟩, ⟨hi, hl, hd⟩ | ⟨pre, hSp, c, hi, hl, hd⟩⟩
    · have he := run_endLoop (P := P) hl (by rw [hrc]; simp)
      refine ⟨none, _, by rw [hrc] at he; exact he, hdone _ ((hI _).po hi _ _ (.inr (.inr rfl))) ((World.putObj_heap_other (by omega)).trans hd)⟩
    · have he := run_endLoop (P := P) hl (by rw [hrc]; simp)
      refine ⟨some c, _, by rw [hrc] at he; exact he, hstop c pre _ hSp ((hIx _ _).po hi _ _ (.inr (.inr rfl))) ((World.putObj_heap_other (by omega)).trans hd)⟩
theorem RoundIn.inRound {F : Fence} {n : Nat} {P : Program} {l : Nat} {f : FuncId} {tmps : Array Value} {assign body : Code} {w : World} {R : Ending → World → Prop} (l' : Nat)
    (h : RoundIn F n P l f tmps assign body w R) : RoundIn (F.inRound l') n P l f tmps assign body w R := h
end Go.Proofs.Ytinfbaflkjghhaa
/- The contracts of ident.May and MayDart, and of the document's own answer for May. -/
namespace Go.Proofs.Ytinfbaflkjghhaa
open Go.RowKit
/-- A call that answers v and leaves all that was there as it was, in every world. -/
def Pure (k : FuncId) (args : Array Value) (v : Value) : Prop := ∀ w : World, Calls Try.prog k args w fun e w' => e = .returned v ∧ Below w.heap.size w w'
def iv (n : Int) : Value := .int .i64 n
def mayI (s n : Int) : Bool := decide (1 ≤ s ∧ s ≤ 8 ∧ 1 ≤ n ∧ n ≤ 1048576)
def mayD (s n c : Int) : Bool := mayI s n && (decide (c = 0) || decide (c = 1))
theorem ret_int {a b : Int} (h : a = b) : Ending.returned (.int .i64 a) = .returned (.int .i64 b) := by rw [h]
theorem ret_bool {a b : Bool} (h : a = b) : Ending.returned (.bool a) = .returned (.bool b) := by rw [h]
theorem below1 (w : World) (o : Obj) : Below w.heap.size w (w.alloc o) := (Below.refl _ _).alloc (Nat.le_refl _) o
theorem below2 (w : World) (o o' : Obj) : Below w.heap.size w ((w.alloc o).alloc o') := (below1 w o).alloc (by simp) o'
theorem may_yes (s n : Int) (w : World) (h1 : 1 ≤ s) (h2 : s ≤ 8) (h3 : 1 ≤ n) (h4 : n ≤ 1048576) :
    Calls Try.prog 78 #[.agg #[.int .i64 s, .int .i64 n]] w fun e w' => e = .returned (.bool true) ∧ Below w.heap.size w w' := by
  go_enter Try.func78, Try.ntmps78
  go_wp2
  go_ret
  exact ⟨rfl, below1 _ _⟩
theorem may_no (s n : Int) (w : World) (h : ¬ (1 ≤ s ∧ s ≤ 8 ∧ 1 ≤ n ∧ n ≤ 1048576)) :
    Calls Try.prog 78 #[.agg #[.int .i64 s, .int .i64 n]] w fun e w' => e = .returned (.bool false) ∧ Below w.heap.size w w' := by
  by_cases h1 : 1 ≤ s
  · by_cases h2 : s ≤ 8
    · by_cases h3 : 1 ≤ n
      · have h4 : ¬ n ≤ 1048576 := by omega
        go_enter Try.func78, Try.ntmps78
        go_wp2
        go_ret
        exact ⟨rfl, below1 _ _⟩
      · clear h
        go_enter Try.func78, Try.ntmps78
        go_wp2
        go_ret
        exact ⟨rfl, below1 _ _⟩
    · clear h
      go_enter Try.func78, Try.ntmps78
      go_wp2
      go_ret
      exact ⟨rfl, below1 _ _⟩
  · clear h
    go_enter Try.func78, Try.ntmps78
    go_wp2
    go_ret
    exact ⟨rfl, below1 _ _⟩
theorem may_any (s n : Int) : Pure 78 #[.agg #[.int .i64 s, .int .i64 n]] (.bool (mayI s n)) := fun w => by
  by_cases h : 1 ≤ s ∧ s ≤ 8 ∧ 1 ≤ n ∧ n ≤ 1048576
  · rw [show mayI s n = true from decide_eq_true h]
    exact may_yes s n w h.1 h.2.1 h.2.2.1 h.2.2.2
  · rw [show mayI s n = false from decide_eq_false h]
    exact may_no s n w h
theorem below_after1 {w w1 : World} {o : Obj} (hb : Below (w.alloc o).heap.size (w.alloc o) w1) : Below w.heap.size w w1 := (below1 w o).trans (hb.mono (by simp))
theorem bcell {W w1 : World} (hb : Below W.heap.size W w1) : (∀ b o, b < W.heap.size → w1.cell? ⟨b, o, none⟩ = W.cell? ⟨b, o, none⟩) ∧ (∀ b o, b < W.heap.size → w1.frozen? ⟨b, o, none⟩ = W.frozen? ⟨b, o, none⟩) :=
  ⟨fun _ _ h => hb.cell h, fun _ _ h => hb.frozen h⟩
theorem maydart_may (s n c : Int) (w : World) (h : mayI s n = true) :
    Calls Try.prog 107 #[.agg #[.int .i64 s, .int .i64 n, .int .i64 c]] w fun e w' => e = .returned (.bool (decide (c = 0) || decide (c = 1))) ∧ Below w.heap.size w w' := by
  have hm := may_any s n
  rw [h] at hm
  have H := Lib.hid hm
  clear hm h
  by_cases c0 : c = 0
  · subst c0
    go_enter Try.func107, Try.ntmps107
    go_wp2_with (first | (go_at_call 78; refine (H.out _).mono ?_; rintro e w' ⟨rfl, hb⟩; obtain ⟨hc, hf⟩ := bcell hb))
    go_ret
    exact ⟨rfl, below_after1 hb⟩
  · have h0 : (c == 0) = false := by simpa using c0
    by_cases c1 : c = 1
    · subst c1
      go_enter Try.func107, Try.ntmps107
      go_wp2_with (first | (go_at_call 78; refine (H.out _).mono ?_; rintro e w' ⟨rfl, hb⟩; obtain ⟨hc, hf⟩ := bcell hb))
      go_ret
      exact ⟨rfl, below_after1 hb⟩
    · have h1 : (c == 1) = false := by simpa using c1
      have hr : (decide (c = 0) || decide (c = 1)) = false := by simp [c0, c1]
      rw [hr]
      clear hr
      go_enter Try.func107, Try.ntmps107
      go_wp2_with (first | (go_at_call 78; refine (H.out _).mono ?_; rintro e w' ⟨rfl, hb⟩; obtain ⟨hc, hf⟩ := bcell hb))
      go_ret
      exact ⟨rfl, below_after1 hb⟩
theorem maydart_not (s n c : Int) (w : World) (h : mayI s n = false) :
    Calls Try.prog 107 #[.agg #[.int .i64 s, .int .i64 n, .int .i64 c]] w fun e w' => e = .returned (.bool false) ∧ Below w.heap.size w w' := by
  have hm := may_any s n
  rw [h] at hm
  have H := Lib.hid hm
  clear hm h
  go_enter Try.func107, Try.ntmps107
  go_wp2_with (first | (go_at_call 78; refine (H.out _).mono ?_; rintro e w' ⟨rfl, hb⟩; obtain ⟨hc, hf⟩ := bcell hb))
  go_ret
  exact ⟨rfl, below_after1 hb⟩
theorem maydart_any (s n c : Int) : Pure 107 #[.agg #[.int .i64 s, .int .i64 n, .int .i64 c]] (.bool (mayD s n c)) := fun w => by
  unfold mayD
  cases h : mayI s n
  · exact maydart_not s n c w h
  · exact maydart_may s n c w h
end Go.Proofs.Ytinfbaflkjghhaa
/- Bytes in memory: words that every layer of bytes wants; bytes.Clone. -/
namespace Go.Proofs.Ytinfbaflkjghhaa
open Go.RowKit
theorem below_drewN (B : Nat) (w : World) (n : Nat) : Below B w (w.drewN n) := ⟨rfl, rfl, rfl, Nat.le_refl _, fun _ _ => rfl⟩
def f8 (b : Nat) : List Value := [.int .u8 (b : Int)]
theorem f8_len (b : Nat) : (f8 b).length = 1 := rfl
theorem f8_one (b : Nat) : ∀ u ∈ f8 b, u.oneCell' = true := by simp [f8, Value.oneCell']
theorem take_snoc_ {α : Type} (l : List α) (k : Nat) (x : α) (h : l[k]? = some x) : l.take (k + 1) = l.take k ++ [x] := by
  rw [List.take_add_one, h]
  rfl
theorem rds_nil (w : World) (B size : Nat) : RdS w B size none 0 0 [] := ⟨by simp, fun _ => ⟨rfl, rfl⟩, Nat.le_refl _, fun a ha => (by cases ha), fun a ha => (by cases ha)⟩
theorem Whole.conv {w : World} {g : Nat} {t : TypeId} {cs cs' : List Value} (h : Whole w g t cs) (e : cs = cs') : Whole w g t cs' := e ▸ h
theorem info_u8 : (Try.prog.info? 5).map (fun i => (i.zero, i.size, i.bytes)) = some (some (.int .u8 0), 1, 1) := by kernel_rfl
theorem info_parts_ {o : Option TypeInfo} {z : Value} {s b : Nat} (h : o.map (fun i => (i.zero, i.size, i.bytes)) = some (some z, s, b)) : ∃ i, o = some i ∧ i.zero = some z ∧ i.size = s ∧ i.bytes = b := by
  cases o with
  | none => simp at h
  | some i => simp at h; exact ⟨i, rfl, h⟩
theorem f8_all (L : List Nat) : ∀ u ∈ rowsV f8 L, u.oneCell' = true := rowsV_one f8 f8_one L
theorem RdS.of_whole8 {W : World} {g : Nat} {t : TypeId} {cs : List Value} {n size : Nat} (h : Whole W g t cs) (hl : cs.length = n * size) : RdS W W.heap.size size (some ⟨g, 0, none⟩) n n cs :=
  ⟨hl, fun e => (by cases e), Nat.le_refl _, fun a ha _ => (by obtain rfl := Option.some.inj ha; exact h.lt), fun a ha j u hu => (by
    obtain rfl := Option.some.inj ha
    have hadd : (⟨g, 0, none⟩ : Addr).add j = ⟨g, j, none⟩ := by unfold Addr.add; split <;> simp_all
    rw [hadd]
    exact h.cell hu)⟩
theorem own_lo8 {w : World} {B B' n : Nat} {e : TypeId} {size : Nat} {v : Value} {xs : List Value} (h : w.ownsRow B e size v n xs) (hB : B' ≤ B) : w.ownsRow B' e size v n xs := by
  refine ⟨h.1, ?_⟩
  rcases h.2 with h | ⟨g, cap, cur, h1, h2, h3⟩
  · exact .inl h
  · exact .inr ⟨g, cap, cur, h1, Nat.le_trans hB h2, h3⟩
theorem RdS.fewer8 {w : World} {B n c : Nat} {A : Option Addr} {L : List Nat} (h : RdS w B 1 A n c (rowsV f8 L)) (k : Nat) : RdS w B 1 A (L.take k).length c (rowsV f8 (L.take k)) := by
  have hl := h.rlen f8_len (by decide)
  have hm : (L.take k).length ≤ n := by rw [List.length_take]; omega
  have := h.take_ (L.take k).length hm
  rw [← rowsV_take f8 f8_len] at this
  have e : L.take (L.take k).length = L.take k := by
    rw [List.length_take]
    rcases Nat.le_total k L.length with h | h
    · rw [Nat.min_eq_left h]
    · rw [Nat.min_eq_right h, List.take_length, List.take_of_length_le h]
  rwa [e] at this
/-- The text of bytes. -/
def txt (L : List Nat) : ByteArray := strB (L.map (fun b : Nat => (b : Int)))
theorem rows_bytes (L : List Nat) : rowsV f8 L = bytesV (L.map (fun b : Nat => (b : Int))) := by
  induction L with
  | nil => rfl
  | cons b L ih => simp only [rowsV, f8, ih]; rfl
theorem conv_txt {w : World} {B n c : Nat} {A : Option Addr} {L : List Nat} (h : RdS w B 1 A n c (rowsV f8 L)) : (convert 23 9 (.slice A n c)).run Try.prog w = .ok (.string (txt L)) w := by
  rw [rows_bytes] at h
  exact conv_rds Try.underlying23 Try.underlying5 Try.underlying9 h
theorem exec_convert {P : Program} {ev : Operand → Value} {o : Oper} {w : World} (s d : TypeId) (x : Operand) (ho : o.op = .convert s d x) {v u : Value} (hx : ev x = v) (hrun : (convert s d v).run P w = .ok u w) : (execOp ev o).run P w = .ok (.value u) w := by
  unfold execOp
  simp only [ho, hx, Sem.run_bind, Sem.run_pure, Result.andThen_ok, hrun]
theorem push_bytes (bs : List Int) : ∀ r : ByteArray, (bs.foldl (fun r n => r.push (UInt8.ofNat n.toNat)) r).data.toList = r.data.toList ++ bs.map fun n => UInt8.ofNat n.toNat := by
  induction bs with
  | nil => intro r; simp
  | cons b bs ih => intro r; rw [List.foldl_cons, ih]; simp [ByteArray.push]
theorem txt_list (L : List Nat) : (txt L).toList = L.map UInt8.ofNat := by
  rw [ByteArray.toList_eq]
  unfold txt strB
  rw [push_bytes]
  simp [Function.comp_def]
theorem ofNat_inj {a b : Nat} (ha : a < 256) (hb : b < 256) (h : UInt8.ofNat a = UInt8.ofNat b) : a = b := by
  have := congrArg UInt8.toNat h
  rw [UInt8.toNat_ofNat', UInt8.toNat_ofNat'] at this
  omega
theorem map_ofNat_inj : ∀ {P Q : List Nat}, (∀ b ∈ P, b < 256) → (∀ b ∈ Q, b < 256) → P.map UInt8.ofNat = Q.map UInt8.ofNat → P = Q
  | [], [], _, _, _ => rfl
  | [], _ :: _, _, _, h => by simp at h
  | _ :: _, [], _, _, h => by simp at h
  | a :: P, b :: Q, hp, hq, h => by
    simp only [List.map_cons, List.cons.injEq] at h
    rw [ofNat_inj (hp a (by simp)) (hq b (by simp)) h.1, map_ofNat_inj (fun x hx => hp x (by simp [hx])) (fun x hx => hq x (by simp [hx])) h.2]
theorem txt_eq {P Q : List Nat} (hp : ∀ b ∈ P, b < 256) (hq : ∀ b ∈ Q, b < 256) : ((txt P).toList == (txt Q).toList) = decide (P = Q) := by
  rw [txt_list, txt_list]
  by_cases h : P = Q
  · subst h; simp
  · rw [decide_eq_false h, beq_eq_false_iff_ne]; exact fun e => h (map_ofNat_inj hp hq e)
/-- A slice of the call's own making. -/
def Gives8 (w : World) (L : List Nat) (e : Ending) (w' : World) : Prop :=
  ∃ A c, e = .returned (.slice A L.length c) ∧ RdS w' w'.heap.size 1 A L.length c (rowsV f8 L) ∧ (∀ a, A = some a → 0 < L.length → w.heap.size ≤ a.block) ∧ w'.ownsRow w.heap.size 5 1 (.slice A L.length c) L.length (rowsV f8 L) ∧ Below w.heap.size w w'
set_option maxRecDepth 100000 in
set_option maxHeartbeats 1000000 in
theorem clone8_1 (a : Addr) (n c : Nat) (L : List Nat) (w : World) (h : RdS w w.heap.size 1 (some a) n c (rowsV f8 L)) (hn : n ≤ 100000) :
    Calls Try.prog 36 #[.slice (some a) n c] w (Gives8 w L) := by
  have hl := h.rlen f8_len (by decide)
  obtain rfl := hl
  obtain ⟨i0, hi, hz0, hz1, hz2⟩ := info_parts_ info_u8
  have HR := Lib.hid h
  clear h
  have HP : RowKit.Hid (Ow w w.heap.size 5 1 (.slice (some ⟨w.heap.size, 0, none⟩) 0 0) 0 [] (w.alloc (.cells #[] 5))) := Lib.hid (Ow.new_ (cs := #[]) (Below.refl _ _) (Nat.le_refl _) (Nat.le_refl _) (Nat.zero_le _) rfl)
  have HR1 := Lib.hid (HR.out.al (.cells #[] 5))
  have hnil : ∀ w', (binOp .eql 23 (.slice (some a) L.length c) (.slice none 0 0)).run Try.prog w' = .ok (.bool false) w' := fun w' => Lib.run_eql_slice_nil w' _ _ _ _ _ _ _ Try.underlying23
  go_enter Try.func36, Try.ntmps36
  go_wp2_with (first
    | (at_builtin
       refine wpList_push2 rfl (.tmp 5) (.tmp 6) _ rfl _ 5 i0 _ 1 1 Try.underlying23 hi hz0 hz1 hz2 rfl (by decide) _ _ _ rfl HP.out _ _ _ _ _ rfl HR1.out (f8_all L) (by unfold maxLen; omega) (by omega) ?_
       intro v1 W5 how1 hb1 hgr1
       rw [Nat.zero_add, List.nil_append] at how1
       obtain ⟨A5, c5, rfl, hr5⟩ := how1.rds
       have HP5 := Lib.hid how1
       have HR5 := Lib.hid hr5
       clear how1 hb1 hgr1 hr5))
  go_ret
  exact ⟨A5, c5, rfl, HR5.out, fun a ha _ => by subst ha; exact (HP5.out.own.lt a.block rfl).1, HP5.out.own, HP5.out.below⟩
set_option maxRecDepth 100000 in
theorem clone8 (A : Option Addr) (c : Nat) (L : List Nat) (w : World) (h : RdS w w.heap.size 1 A L.length c (rowsV f8 L)) (hn : L.length ≤ 100000) :
    Calls Try.prog 36 #[.slice A L.length c] w (Gives8 w L) := by
  cases A with
  | some a => exact clone8_1 a L.length c L w h hn
  | none =>
    obtain ⟨h1, rfl⟩ := h.none_ rfl
    obtain rfl : L = [] := List.eq_nil_of_length_eq_zero h1
    have hnil : ∀ w', (binOp .eql 23 (.slice none 0 0) (.slice none 0 0)).run Try.prog w' = .ok (.bool true) w' := fun w' => Lib.run_eql_slice_nil w' _ _ _ _ _ _ _ Try.underlying23
    clear h hn h1
    show Calls Try.prog 36 #[.slice none 0 0] w (Gives8 w [])
    go_enter Try.func36, Try.ntmps36
    go_wp2
    go_ret
    exact ⟨none, 0, rfl, rds_nil _ _ _, fun a ha => (by cases ha), World.ownsRow_nil _ _ _ _, Below.refl _ _⟩
theorem rowsV_map8 (L : List Nat) : rowsV f8 L = L.map (fun b : Nat => Value.int .u8 (b : Int)) := by
  induction L with
  | nil => rfl
  | cons b L ih => simp only [rowsV, f8, ih]; rfl
end Go.Proofs.Ytinfbaflkjghhaa
/- Words for all layers, in one text. -/
namespace Go.Proofs.Ytinfbaflkjghhaa
open Go.ChangeShapes Go.WideShapes Go.ChangeAt Go.RowKit
section
variable {H : Type} {enc : TypeId × Value → H} {P : Program}
/-- A row of arguments reads as it did where below the old heap's end nothing has turned. -/
theorem trodAll_stays (hl : laidOutB P = true) {W W' : World} (hb : Below W.heap.size W W') : ∀ (ts : List TypeId) (vs : List Value) (ds : List (DataW H)) (ps : List MemPlace) (sp : Nat → Bool),
    (∀ t ∈ ts, P.readableRec t = true ∧ t < P.types.size) → DataW.TrodAll enc P W 0 (fun _ => true) true ts vs ds ps →
    (∀ p ∈ ps, p.block < W.heap.size) → (∀ p ∈ ps, sp p.block = true) → DataW.TrodAll enc P W' 0 sp true ts vs ds ps
  | [], _, _, _, _, _, h, _, _ => by
    obtain ⟨rfl, rfl, rfl⟩ := trodAll_nil h
    exact rfl
  | t :: ts, vs, ds, ps, sp, ht, h, hlt, hs => by
    obtain ⟨v, vs', d, ds', p, q, rfl, rfl, rfl, h1, h2⟩ := trodAll_cons h
    have ⟨hr, hrow⟩ := ht t (by simp)
    refine ⟨p, q, WideElems.Trod_stays hl hr hrow h1 (fun x hx => hb.same (hlt x (by simp [hx]))) (fun x hx => hs x (by simp [hx])), ?_, rfl⟩
    exact trodAll_stays hl hb ts vs' ds' q sp (fun t' h' => ht t' (by simp [h'])) h2 (fun x hx => hlt x (by simp [hx])) (fun x hx => hs x (by simp [hx]))
/-- A law's post. -/
theorem law_post {f : Func} {s : ChangeSpec} {tb : TypeId} {W W' : World} {args : Array Value} {ds gs : List (DataW H)} {before : List MemPlace}
    (hl : laidOutB P = true) (hts : f.params.toList.all (fun t => P.readableRec t && decide (t < P.types.size)) = true) (hr : f.resultTypes = #[tb]) (htb : P.underlying tb = some .bool) (hv : s.vars = [])
    (hfn : (s.fn H (ds ++ gs)).results = [.lit (.bool true)] ∧ (s.fn H (ds ++ gs)).args = ds ∧ (s.fn H (ds ++ gs)).vars = [])
    (hW : DataW.Whole enc P f.params.toList s.vars false W args.toList ds gs before) (hb : Below W.heap.size W W') :
    s.post enc P f false true false false W args (.bool true) W' := by
  have hts' : ∀ t ∈ f.params.toList, P.readableRec t = true ∧ t < P.types.size := fun t ht => by
    have h := List.all_eq_true.1 hts t ht
    simpa using h
  have hlt : ∀ p ∈ before, p.block < W.heap.size := fun p hp => hW.lt p hp
  have hW' := hW
  obtain ⟨p, q, hA, hV, rfl, hfz, hnd⟩ := hW
  rw [hv] at hV
  obtain ⟨rfl, rfl⟩ := trodVars_none hV
  obtain ⟨e1, e2, e3⟩ := hfn
  refine ⟨ds, [], p ++ [], [], p, [], hW', ?_, ?_, ?_, ?_, fun h => by cases h⟩
  · rw [e1, hr]
    exact trodAll_mk1 (shut_bool htb _)
  · rw [e2]
    exact trodAll_stays hl hb _ _ _ _ _ hts' hA (fun x hx => hlt x (by simp [hx])) (fun x hx => by simpa using hlt x (by simp [hx]))
  · rw [e3, hv]
    rfl
  · exact World.keptBut_mono (fun x hx => ⟨hx, by simpa using hx⟩) (hb.frame (· ∈ p ++ []))
end
end Go.Proofs.Ytinfbaflkjghhaa
/- A law's arguments opened: types that are flat rows of int; what such a value is. -/
namespace Go.Proofs.Ytinfbaflkjghhaa
open Go.ChangeShapes Go.WideShapes Go.ChangeAt Go.RowKit
section
variable {H : Type} {P : Program}
def In64 (n : Int) : Prop := -9223372036854775808 ≤ n ∧ n ≤ 9223372036854775807
end
end Go.Proofs.Ytinfbaflkjghhaa
/- The laws' types as rows of int; what the row's shutting asks of the program. -/
namespace Go.Proofs.Ytinfbaflkjghhaa
open Go.ChangeShapes Go.WideShapes Go.ChangeAt Go.RowKit
theorem Try.own : ownKnob Try.prog.godebug = none := by kernel_rfl
theorem Try.laidOut : laidOutB Try.prog = true := by kernel_rfl
end Go.Proofs.Ytinfbaflkjghhaa
/- A law's slice argument opened: its elements are rows of ints, or bytes. -/
namespace Go.Proofs.Ytinfbaflkjghhaa
open Go.ChangeShapes Go.WideShapes Go.ChangeAt Go.RowKit Go.Deep
section
variable {H : Type} {P : Program}
end
end Go.Proofs.Ytinfbaflkjghhaa
/- A law's arguments opened, by the type: ints, bools, texts, slices, structs of these. -/
namespace Go.Proofs.Ytinfbaflkjghhaa
open Go.ChangeShapes Go.WideShapes Go.ChangeAt Go.RowKit Go.Deep
section
variable {H : Type} {P : Program} {α β : Type}
/-- What reads as data at type t is the cells of some a with p. -/
def Row1 (H : Type) (P : Program) (t : TypeId) (f : α → List Value) (p : World → α → Prop) : Prop :=
  ∀ (enc : TypeId × Value → H) (w : World) (held : Bool) (fuel : Nat) (cs : List Value) (x : DataW H × List MemPlace),
    DataW.trod enc P w 0 (fun _ => true) held fuel t cs = some x → ∃ a, cs = f a ∧ p w a
theorem row1_int {t : TypeId} (ht : P.underlying t = some (.int .i64)) : Row1 H P t (fun n : Int => [.int .i64 n]) (fun _ n => In64 n) := by
  intro enc w held fuel cs x h
  obtain ⟨n, rfl, _, hw⟩ := DataW.trod_int ht h
  exact ⟨n, rfl, bounds_i64 hw⟩
theorem row1_bool {t : TypeId} (ht : P.underlying t = some .bool) : Row1 H P t (fun b : Bool => [.bool b]) (fun _ _ => True) := by
  intro enc w held fuel cs x h
  cases fuel with
  | zero => simp [DataW.trod] at h
  | succ m =>
    unfold DataW.trod at h
    rw [ht] at h
    split at h <;> simp_all
theorem row1_string {t : TypeId} (ht : P.underlying t = some .string) : Row1 H P t (fun s : ByteArray => [.string s]) (fun _ s => s.size ≤ maxLen) := by
  intro enc w held fuel cs x h
  obtain ⟨s, rfl, _, hs⟩ := DataW.trod_string ht h
  exact ⟨s, rfl, hs⟩
theorem Row1.map {t : TypeId} {f : α → List Value} {p : World → α → Prop} (h : Row1 H P t f p) (g : α → β) {f' : β → List Value} {p' : World → β → Prop} (hf : ∀ a, f a = f' (g a)) (hp : ∀ w a, p w a → p' w (g a)) : Row1 H P t f' p' := by
  intro enc w held fuel cs x hx
  obtain ⟨a, rfl, ha⟩ := h enc w held fuel cs x hx
  exact ⟨g a, hf a, hp w a ha⟩
/-- What the fields from cell off on read as. -/
def Fields_ (H : Type) (P : Program) (fs : List Field) (off m : Nat) (g : α → List Value) (q : World → α → Prop) : Prop :=
  ∀ (enc : TypeId × Value → H) (w : World) (held : Bool) (n : Nat) (cs : List Value),
    (∀ fl ∈ fs, ∃ y, DataW.trod enc P w 0 (fun _ => true) held n fl.type ((cs.drop fl.offset).take (P.cellsOf fl.type)) = some y) → ∃ a, (cs.drop off).take m = g a ∧ q w a
theorem fields_nil (off : Nat) : Fields_ H P [] off 0 (fun _ : Unit => []) (fun _ _ => True) := fun _ _ _ _ cs _ => ⟨(), by simp, trivial⟩
theorem fields_cons {fl : Field} {fs : List Field} {off k m : Nat} {f : α → List Value} {p : World → α → Prop} {g : β → List Value} {q : World → β → Prop}
    (h : Row1 H P fl.type f p) (ho : fl.offset = off) (hc : P.cellsOf fl.type = k) (hr : Fields_ H P fs (off + k) m g q) :
    Fields_ H P (fl :: fs) off (k + m) (fun ab : α × β => f ab.1 ++ g ab.2) (fun w ab => p w ab.1 ∧ q w ab.2) := by
  intro enc w held n cs hall
  obtain ⟨y, hy⟩ := hall fl (by simp)
  obtain ⟨a, ha, pa⟩ := h _ _ _ _ _ _ hy
  obtain ⟨b, hb, qb⟩ := hr enc w held n cs (fun fl' h' => hall fl' (by simp [h']))
  rw [ho, hc] at ha
  refine ⟨(a, b), ?_, pa, qb⟩
  show _ = f a ++ g b
  rw [← ha, ← hb, List.take_add, List.drop_drop]
theorem row1_struct {t : TypeId} {fs : List Field} {m : Nat} {g : α → List Value} {q : World → α → Prop} (ht : P.underlying t = some (.struct fs.toArray)) (hc : P.cellsOf t = m) (h : Fields_ H P fs 0 m g q) : Row1 H P t g q := by
  intro enc w held fuel cs x hx
  obtain ⟨xs, n, _, _, hl, hlen, hg⟩ := DataW.trod_struct ht hx
  obtain ⟨a, ha, qa⟩ := h enc w held n cs (fun fl hfl => by
    obtain ⟨i, hi⟩ := List.getElem?_of_mem hfl
    have h1 := hg i fl (by simpa using hi)
    have hlt : i < xs.length := by
      rw [hlen]
      simpa using (List.getElem?_eq_some_iff.1 hi).1
    exact ⟨xs[i], by rw [h1, List.getElem?_eq_getElem hlt]⟩)
  refine ⟨a, ?_, qa⟩
  rw [← ha, List.drop_zero, List.take_of_length_le (by omega)]
theorem row1_rows {e : TypeId} {k : Nat} {f : α → List Value} {p : World → α → Prop} (hi : Row1 H P e f p) (hc : P.cellsOf e = k) (hk : ∀ a, (f a).length = k) (enc : TypeId × Value → H) (W : World) (held : Bool) (a : Addr) (nn : Nat) :
    ∀ n : Nat, (∀ i, i < n → ∃ cs' D, W.cells? 0 (a.add (i * P.cellsOf e)) (P.cellsOf e) = some cs' ∧ DataW.trod enc P W 0 (fun _ => true) held nn e cs' = some D) →
      ∃ l : List α, l.length = n ∧ (∀ j u, (rowsV f l)[j]? = some u → W.cell? (a.add j) = some u) ∧ ∀ x ∈ l, p W x
  | 0, _ => ⟨[], rfl, fun j u h => (by simp [rowsV] at h), fun x h => (by cases h)⟩
  | n + 1, h => by
    obtain ⟨l, hl, hq, hp⟩ := row1_rows hi hc hk enc W held a nn n (fun i hi => h i (by omega))
    obtain ⟨cs', D, h1, h2⟩ := h n (by omega)
    obtain ⟨x, rfl, hx⟩ := hi _ _ _ _ _ _ h2
    rw [hc] at h1
    obtain ⟨_, hln, hat⟩ := World.cells?_some h1
    have hlen : (rowsV f l).length = n * k := by rw [rowsV_length f hk, hl]
    refine ⟨l ++ [x], by simp [hl], fun j u hj => ?_, fun y hy => ?_⟩
    · rw [rowsV_app] at hj
      rcases Nat.lt_or_ge j (n * k) with hlt | hge
      · rw [List.getElem?_append_left (by omega)] at hj
        exact hq j u hj
      · rw [List.getElem?_append_right (by omega), hlen] at hj
        simp only [rowsV, List.append_nil] at hj
        have hjk : j - n * k < k := by
          rcases Nat.lt_or_ge (j - n * k) k with h3 | h3
          · exact h3
          · rw [List.getElem?_eq_none (by rw [hk]; exact h3)] at hj
            cases hj
        have h4 := hat (j - n * k) hjk
        rw [hj, add_add, show n * k + (j - n * k) = j by omega] at h4
        exact h4
    · rcases List.mem_append.1 hy with hy | hy
      · exact hp y hy
      · obtain rfl := List.mem_singleton.1 hy
        exact hx
/-- What a slice reads as. -/
def SlOk (k : Nat) (f : α → List Value) (p : World → α → Prop) (w : World) (s : Option Addr × Nat × Nat × List α) : Prop :=
  s.2.2.1 ≤ maxLen ∧ RdS w w.heap.size k s.1 s.2.1 s.2.2.1 (rowsV f s.2.2.2) ∧ ∀ x ∈ s.2.2.2, p w x
def slCells (s : Option Addr × Nat × Nat × List α) : List Value := [.slice s.1 s.2.1 s.2.2.1]
theorem row1_slice {t e : TypeId} {k : Nat} {f : α → List Value} {p : World → α → Prop} (hi : Row1 H P e f p) (ht : P.underlying t = some (.slice e)) (hc : P.cellsOf e = k) (hk : ∀ a, (f a).length = k) (h0 : 0 < k) :
    Row1 H P t (slCells (α := α)) (SlOk k f p) := by
  intro enc W held fuel cs x hf
  rcases open_slice ht hf with ⟨rfl, _⟩ | ⟨a, n, c, m, q, D, Pl, rfl, hb, hl, hm, hmm, hx, hel⟩
  · exact ⟨(none, 0, 0, []), rfl, Nat.zero_le _, ⟨by simp [rowsV], fun _ => ⟨rfl, rfl⟩, Nat.le_refl _, fun a ha => (by cases ha), fun a ha => (by cases ha)⟩, fun x hx => (by cases hx)⟩
  · have hmc : m = c := by simpa using hmm
    clear hmm
    subst m
    obtain ⟨l, hlen, hcell, hp⟩ := row1_rows hi hc hk enc W held a q n (fun i him => by
      obtain ⟨cs', h1, h2⟩ := hel i (by omega)
      exact ⟨cs', _, h1, h2⟩)
    refine ⟨(some a, n, c, l), rfl, hm, ⟨by rw [rowsV_length f hk, hlen], fun e => (by cases e), hl, fun a' ha hn => ?_, fun a' ha j u hu => ?_⟩, hp⟩
    · obtain rfl := Option.some.inj ha
      have h0' : 0 < (rowsV f l).length := by rw [rowsV_length f hk, hlen]; exact Nat.mul_pos hn h0
      have := World.block_lt_of_cell? W _ (hcell 0 _ (List.getElem?_eq_getElem h0'))
      simpa [Addr.add] using this
    · obtain rfl := Option.some.inj ha
      exact hcell j u hu
theorem open_row1_slice {w W : World} {t e : TypeId} {k : Nat} {f : α → List Value} {p : World → α → Prop} {r : Reach} {b0 : Nat} {enc : TypeId × Value → H} {held : Bool} {v : Value} {d : DataW H} {ps : List MemPlace}
    (hi : Row1 H P e f p) (ht : P.underlying t = some (.slice e)) (hc : P.cellsOf e = k) (hk : ∀ a, (f a).length = k) (h0 : 0 < k)
    (hv : Value.okWide P w r b0 t v) (hd : DataW.Trod enc P W 0 (fun _ => true) held t v d ps) :
    ∃ s : Option Addr × Nat × Nat × List α, v = .slice s.1 s.2.1 s.2.2.1 ∧ SlOk k f p W s := by
  obtain ⟨A0, n0, c0, rfl⟩ := okWide_slice ht hv
  obtain ⟨fuel, hf⟩ := hd
  obtain ⟨s, q, hs⟩ := row1_slice hi ht hc hk h0 _ _ _ _ _ _ hf
  refine ⟨s, ?_, hs⟩
  simpa [Value.cells, slCells] using q
end
end Go.Proofs.Ytinfbaflkjghhaa
/- Numbers and texts as bytes; names as bytes: numbers alone. -/
namespace Go.Proofs.Ytinfbaflkjghhaa
open Go.RowKit
/-- The last k bytes of a number, the highest first. -/
def beN : Nat → Nat → List Nat
  | 0, _ => []
  | k + 1, u => beN k (u / 256) ++ [u % 256]
theorem beN_len : ∀ (k u : Nat), (beN k u).length = k
  | 0, _ => rfl
  | k + 1, u => by rw [beN, List.length_append, beN_len k]; rfl
theorem beN_lt : ∀ (k u : Nat), ∀ b ∈ beN k u, b < 256
  | 0, _, b, hb => (by cases hb)
  | k + 1, u, b, hb => by
    rw [beN] at hb
    rcases List.mem_append.1 hb with h | h
    · exact beN_lt k _ b h
    · rw [List.mem_singleton.1 h]; omega
/-- A number out of bytes. -/
def deN (L : List Nat) : Nat := L.foldl (fun u c => u * 256 + c) 0
theorem deN_snoc (L : List Nat) (c : Nat) : deN (L ++ [c]) = deN L * 256 + c := by simp [deN, List.foldl_append]
theorem deN_beN : ∀ (k u : Nat), deN (beN k u) = u % 256 ^ k
  | 0, u => by simp [beN, deN, Nat.mod_one]
  | k + 1, u => by
    rw [beN, deN_snoc, deN_beN k, Nat.pow_succ, Nat.mul_comm (256 ^ k) 256, Nat.mod_mul]
    omega
theorem deN_lt {L : List Nat} (h : ∀ b ∈ L, b < 256) : ∀ k, k ≤ L.length → deN (L.take k) < 256 ^ k
  | 0, _ => by simp [deN]
  | k + 1, hk => by
    have h1 := deN_lt h k (by omega)
    have h2 := h L[k] (List.getElem_mem (by omega))
    rw [List.take_succ_eq_append_getElem (by omega), deN_snoc, Nat.pow_succ]
    omega
/-- A whole number as it lies in eight bytes. -/
def u64 (x : Int) : Nat := (x % 18446744073709551616).toNat
def be8 (x : Int) : List Nat := beN 8 (u64 x)
/-- The number in eight bytes. -/
def num8 (L : List Nat) : Int := IntKind.i64.wrap (deN L : Int)
theorem be8_len (x : Int) : (be8 x).length = 8 := beN_len 8 _
theorem be8_lt (x : Int) : ∀ b ∈ be8 x, b < 256 := beN_lt 8 _
theorem u64_lt (x : Int) : u64 x < 18446744073709551616 := by unfold u64; omega
theorem wrap_u64 (x : Int) (h : In64 x) : IntKind.i64.wrap (u64 x : Int) = x := by
  obtain ⟨h1, h2⟩ := h
  have e : (u64 x : Int) = x % 18446744073709551616 := by unfold u64; omega
  rw [e]
  by_cases h0 : 0 ≤ x
  · rw [Int.emod_eq_of_lt h0 (by omega)]; exact IntWalk.i64_in _ (by omega)
  · rw [show x % 18446744073709551616 = x + 18446744073709551616 by omega]
    rw [IntKind.wrap_i64]
    omega
theorem num8_be8 (x : Int) (h : In64 x) : num8 (be8 x) = x := by
  unfold num8 be8
  rw [deN_beN, Nat.mod_eq_of_lt (by have := u64_lt x; omega), wrap_u64 x h]
/-- A text's bytes. -/
def tB (s : ByteArray) : List Nat := s.toList.map UInt8.toNat
theorem tB_len (s : ByteArray) : (tB s).length = s.size := by simp [tB, ByteArray.toList_eq]
theorem tB_lt (s : ByteArray) : ∀ b ∈ tB s, b < 256 := by
  intro b hb
  obtain ⟨c, -, rfl⟩ := List.mem_map.1 hb
  exact c.toNat_lt
theorem txt_tB (s : ByteArray) : txt (tB s) = s := by
  have h : (txt (tB s)).toList = s.toList := by
    rw [txt_list, tB, List.map_map]
    conv => rhs; rw [← List.map_id s.toList]
    exact List.map_congr_left fun c _ => by simp
  rw [ByteArray.toList_eq, ByteArray.toList_eq] at h
  exact ByteArray.ext (Array.toList_inj.1 h)
/-- A text with its length. -/
def textB (s : ByteArray) : List Nat := [s.size % 256] ++ tB s
theorem textB_lt (s : ByteArray) : ∀ b ∈ textB s, b < 256 := by
  intro b hb
  rcases List.mem_append.1 hb with h | h
  · rw [List.mem_singleton.1 h]; omega
  · exact tB_lt s b h
/-- A name's four bytes. -/
def idB (x : Int × Int) : List Nat := [(x.1 % 256).toNat, (x.2 / 65536 % 256).toNat, (x.2 / 256 % 256).toNat, (x.2 % 256).toNat]
theorem idB_lt (x : Int × Int) : ∀ b ∈ idB x, b < 256 := by
  intro b hb
  simp only [idB, List.mem_cons, List.not_mem_nil, or_false] at hb
  rcases hb with rfl | rfl | rfl | rfl <;> omega
/-- The next byte. -/
def c1 (L : List Nat) : Nat := L.headD 0
end Go.Proofs.Ytinfbaflkjghhaa
/- pack.room. -/
namespace Go.Proofs.Ytinfbaflkjghhaa
open Go.RowKit
theorem rows_get (L : List Nat) (j : Nat) : (rowsV f8 L)[j]? = (L[j]?).map (fun b : Nat => Value.int .u8 (b : Int)) := by rw [rowsV_map8, List.getElem?_map]
theorem rows8_len (L : List Nat) : (rowsV f8 L).length = L.length := by rw [rowsV_map8, List.length_map]
theorem rows8_app (L M : List Nat) : rowsV f8 (L ++ M) = rowsV f8 L ++ rowsV f8 M := by rw [rowsV_map8, rowsV_map8, rowsV_map8, List.map_append]
theorem rows8_set (L : List Nat) (j b : Nat) : (rowsV f8 L).set j (.int .u8 (b : Int)) = rowsV f8 (L.set j b) := by rw [rowsV_map8, rowsV_map8, List.map_set]
theorem made_u8 (N : Nat) : madeCells (Value.int .u8 0).cells N = (rowsV f8 (List.replicate N 0)).toArray := by
  apply Array.ext'
  rw [rowsV_map8, List.map_replicate]
  show (madeCells #[Value.int .u8 0] N).toList = _
  refine List.ext_getElem? fun j => ?_
  rw [List.getElem?_replicate]
  by_cases h : j < N
  · rw [if_pos h, Array.getElem?_toList, Array.getElem?_eq_getElem (by rw [size_madeCells]; exact h)]
    simp [madeCells, Nat.mod_one]
  · rw [if_neg h, Array.getElem?_toList, Array.getElem?_eq_none (by rw [size_madeCells]; omega)]
theorem make_u8 (N : Nat) (hN : N ≤ 100000000) (W : World) : (Instr.makeSlice 23 (.int .i64 (N : Int)) (.int .i64 (N : Int))).run Try.prog W = .ok (.slice (some ⟨W.heap.size, 0, none⟩) N N) (W.alloc (.cells (rowsV f8 (List.replicate N 0)).toArray 5)) := by
  obtain ⟨i0, hi, hz0, hz1, hz2⟩ := info_parts_ info_u8
  have h := run_make (P := Try.prog) W 23 5 i0 _ Try.underlying23 hi hz0 .i64 .i64 (N : Int) (N : Int) (by omega) (by omega) (by rw [hz2]; omega) (by omega)
  rw [hz1] at h
  simp only [Int.toNat_natCast, Nat.mul_one] at h
  rw [h, made_u8]
theorem splice_0 (L : List Nat) (m : Nat) : splice (rowsV f8 (List.replicate (L.length + m) 0)) 0 (rowsV f8 L) = rowsV f8 (L ++ List.replicate m 0) := by
  unfold splice
  rw [List.take_zero, List.nil_append, rows8_app, rows8_len, Nat.zero_add, rowsV_map8 (List.replicate _ _), rowsV_map8 (List.replicate _ _), List.map_replicate, List.map_replicate, List.drop_replicate, Nat.add_sub_cancel_left]
/-- A block of bytes that the call made is a row of its own. -/
theorem gives8_whole {w w' : World} {g : Nat} {L : List Nat} {N : Nat} (hN : L.length = N) (hm : N ≤ 100000000) (hg : w.heap.size ≤ g) (hw : Whole w' g 5 (rowsV f8 L)) (hb : Below w.heap.size w w') : Gives8 w L (.returned (.slice (some ⟨g, 0, none⟩) N N)) w' := by
  subst hN
  refine ⟨some ⟨g, 0, none⟩, L.length, rfl, RdS.of_whole8 hw (by rw [rows8_len, Nat.mul_one]), fun a ha _ => ?_, ?_, hb⟩
  · obtain rfl := Option.some.inj ha
    exact hg
  · exact own_mk (junk := []) (by rw [List.append_nil]; exact hw) hg (by rw [List.append_nil, rows8_len, Nat.mul_one]) (Nat.le_refl _) (by unfold maxLen; omega) (by rw [rows8_len, Nat.mul_one])
theorem RdS.src {W : World} {B n c : Nat} {A : Option Addr} {X : List Value} (h : RdS W B 1 A n c X) (h0 : 0 < X.length) : ∃ ad, A = some ad ∧ ∀ j v, X[j]? = some v → W.cell? (ad.add j) = some v := by
  cases A with
  | none => obtain ⟨h1, -⟩ := h.none_ rfl; have := h.len; omega
  | some a => exact ⟨a, rfl, h.cell a rfl⟩
set_option maxRecDepth 100000 in
set_option maxHeartbeats 1000000 in
theorem room_any (A : Option Addr) (c : Nat) (L : List Nat) (m : Nat) (w : World) (h : RdS w w.heap.size 1 A L.length c (rowsV f8 L)) (hn : L.length ≤ 1000000) (hm : m ≤ 1000000) :
    Calls Try.prog 40 #[.slice A L.length c, .int .i64 (m : Int)] w fun e w' => ∃ g, e = .returned (.slice (some ⟨g, 0, none⟩) (L.length + m) (L.length + m)) ∧ w.heap.size ≤ g ∧ Whole w' g 5 (rowsV f8 (L ++ List.replicate m 0)) ∧ Below w.heap.size w w' := by
  have HR := Lib.hid h
  have HL := Lib.hid (rows8_len L)
  have HSp := Lib.hid (splice_0 L m)
  have hw : IntKind.i64.wrap ((L.length : Int) + (m : Int)) = ((L.length + m : Nat) : Int) := by rw [IntWalk.i64_in _ (by omega)]; omega
  have hmk := make_u8 (L.length + m) (by omega)
  have hone := Lib.hid (f8_all L)
  obtain ⟨X, gX⟩ : ∃ X, rowsV f8 L = X := ⟨_, rfl⟩
  obtain ⟨Z, gZ⟩ : ∃ Z, rowsV f8 (List.replicate (L.length + m) 0) = Z := ⟨_, rfl⟩
  have HZl : RowKit.Hid (Z.length = L.length + m) := Lib.hid (by rw [← gZ, rows8_len, List.length_replicate])
  rw [gX] at HR HL HSp hone
  rw [gZ] at HSp hmk
  obtain ⟨n, gn⟩ : ∃ n, L.length = n := ⟨_, rfl⟩
  rw [gn] at HR HL hw hmk hn HZl ⊢
  obtain ⟨N, gN⟩ : ∃ N, n + m = N := ⟨_, rfl⟩
  rw [gN] at hw hmk HZl ⊢
  have Hle : RowKit.Hid (n ≤ N) := Lib.hid (by omega)
  clear h gX gZ gn gN
  go_enter Try.func40, Try.ntmps40
  have HW1 : RowKit.Hid (Whole (w.alloc (.cells Z.toArray 5)) w.heap.size 5 Z) := Lib.hid (Whole.new_ _ _ _)
  have HR1 := Lib.hid (HR.out.al (.cells Z.toArray 5))
  have HB1 := Lib.hid (below1 w (.cells Z.toArray 5))
  go_upto_region 2 with fail
  refine wp_region_lit ?_
  refine wl_read (v := ?_) (some 11) rfl (by rfl) ?_ ?_
  rotate_left
  · go_simp; (try with_reducible rfl)
  simp only [Act.put, stA_, st0_, st1_]
  refine wl_read (v := ?_) (some 12) rfl (by rfl) ?_ ?_
  rotate_left
  · go_simp; (try with_reducible rfl)
  simp only [Act.put, stA_, st0_, st1_]
  refine wpList_copy_splice rfl (.tmp 11) (.tmp 12) 23 23 rfl 5 Try.underlying23 (by kernel_rfl) _ _ _ _ _ _ rfl rfl w.heap.size 0 Z 5 HW1.out X (by rw [HL.out]; exact (Nat.min_eq_left Hle.out).symm) (fun h0 => ⟨rfl, HR1.out.src h0⟩) (by have := HL.out; have := Hle.out; have := HZl.out; omega) hone.out w.heap.size w HB1.out (Nat.le_refl _) ?_
  intro w2 HG2 hB2
  go_wp2
  go_ret
  exact ⟨w.heap.size, rfl, Nat.le_refl _, HSp.out ▸ HG2.out, hB2⟩
end Go.Proofs.Ytinfbaflkjghhaa
