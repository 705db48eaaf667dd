/- Words for all layers, in one text. -/
import Derived.WalkKit
import Derived.Deep.Slices
import Derived.Lib.SmallJoins
import Derived.Deep.AppendLies
import Derived.Maps.AppendAt
import Derived.Laws.AppendOwnNone
import Derived.Below
import Derived.Laws.OwnMore
import Derived.Laws.NewBlocks
import Derived.Lib.Hide
import Derived.OrdersHeld
import Derived.Deep.DeepCutAuto
import Derived.LoopTactic
import Derived.Outline
import Derived.Deep.QuietTactic
import Derived.BigQuiet
import Derived.IntWalk
import Derived.Laws.Rows
import Derived.Deep.WholeRow
import Derived.Great.Walk
import Derived.Laws.Tables
import Derived.Deep.MidRow

/- Words for slices in memory: what a slice reads as, and an append from whatever slice to a row of the call's own. -/
namespace Go.Proofs.YtinhenmafjoaoaaGreatDoor
open Go.RowKit

def u8v (x : Int) : Value := .int .u8 x
def bytesV (bs : List Int) : List Value := bs.map u8v

/-- The slice value of address A, length n, capacity c holds the cells xs, and lies below block B. -/
structure RdS (w : World) (B size : Nat) (A : Option Addr) (n c : Nat) (xs : List Value) : Prop where
  len : xs.length = n * size
  none_ : A = none → n = 0 ∧ c = 0
  le : n ≤ c
  low : ∀ a, A = some a → 0 < n → a.block < B
  cell : ∀ a, A = some a → ∀ j u, xs[j]? = some u → w.cell? (a.add j) = some u

theorem add_block (a : Addr) (n : Nat) : (a.add n).block = a.block := by unfold Addr.add; split <;> rfl

theorem RdS.pos {w : World} {B size n c : Nat} {A : Option Addr} {xs : List Value} (h : RdS w B size A n c xs) {j : Nat} {u : Value} (hu : xs[j]? = some u) : 0 < n := by
  have h1 : j < xs.length := by
    rcases Nat.lt_or_ge j xs.length with h1 | h1
    · exact h1
    · rw [List.getElem?_eq_none h1] at hu
      cases hu
  rcases Nat.eq_zero_or_pos n with h0 | h0
  · rw [h.len, h0] at h1
    omega
  · exact h0

theorem RdS.keep {w w' : World} {B size n c : Nat} {A : Option Addr} {xs : List Value} (h : RdS w B size A n c xs) (hk : ∀ p : Addr, p.block < B → w'.cell? p = w.cell? p) : RdS w' B size A n c xs :=
  ⟨h.len, h.none_, h.le, h.low, fun a ha j u hu => (hk _ (by rw [add_block]; exact h.low a ha (h.pos hu))).trans (h.cell a ha j u hu)⟩
theorem RdS.below {w w' : World} {B size n c : Nat} {A : Option Addr} {xs : List Value} (h : RdS w B size A n c xs) (hb : Below B w w') : RdS w' B size A n c xs := h.keep fun _ hp => hb.cell hp


theorem RdS.up {w w' : World} {B B' size n c : Nat} {A : Option Addr} {xs : List Value} (h : RdS w B size A n c xs) (hb : Below B w w') (hB : B ≤ B') : RdS w' B' size A n c xs :=
  have h' := h.below hb
  ⟨h'.len, h'.none_, h'.le, fun a ha hn => Nat.lt_of_lt_of_le (h'.low a ha hn) hB, h'.cell⟩

/-- A row of the call's own reads as what it holds. -/
theorem RdS.of_own {w : World} {base size n : Nat} {e : TypeId} {v : Value} {xs : List Value} (h : w.ownsRow base e size v n xs) : ∃ A c, v = .slice A n c ∧ RdS w w.heap.size size A n c xs := by
  rcases h.2 with ⟨rfl, rfl⟩ | ⟨g, cap, cur, rfl, hb, hg, hnc, hcm, hcs, ht⟩
  · exact ⟨none, 0, rfl, ⟨h.1, fun _ => ⟨rfl, rfl⟩, Nat.le_refl _, fun a ha => (by cases ha), fun a ha => (by cases ha)⟩⟩
  · refine ⟨_, cap, rfl, ⟨h.1, fun e => (by cases e), hnc, fun a ha _ => ?_, fun a ha j u hu => ?_⟩⟩
    · obtain rfl := Option.some.inj ha
      exact (h.lt g rfl).2
    · obtain rfl := Option.some.inj ha
      exact h.cells (g := g) rfl j u hu

/-- A new block reads as the slice over all of it. -/
theorem RdS.of_new {cs : Array Value} {t : TypeId} (w : World) {n size : Nat} (hn : cs.toList.length = n * size) : RdS (w.alloc (.cells cs t)) (w.heap.size + 1) size (some ⟨w.heap.size, 0, none⟩) n n cs.toList :=
  ⟨hn, fun e => (by cases e), Nat.le_refl _, fun a ha _ => (by obtain rfl := Option.some.inj ha; simp), fun a ha => (by obtain rfl := Option.some.inj ha; exact World.news_of_block (fr := (0, 0)) (heap_alloc_new w _))⟩

theorem RdS.new_ {w : World} {cs : Array Value} {t : TypeId} {n size g B : Nat} {xs : List Value} (hg : g = w.heap.size) (hB : g < B) (hx : xs = cs.toList) (hn : xs.length = n * size) : RdS (w.alloc (.cells cs t)) B size (some ⟨g, 0, none⟩) n n xs := by
  subst hg hx
  have h := RdS.of_new (t := t) w hn
  exact ⟨h.len, h.none_, h.le, fun a ha _ => (by obtain rfl := Option.some.inj ha; exact hB), h.cell⟩

/-- A new block is a row of the call's own, all of it. -/
theorem own_new {w : World} {e : TypeId} {base size g n : Nat} {cs : Array Value} {xs : List Value} (hg : g = w.heap.size) (hb : base ≤ g) (hm : n ≤ maxLen) (hs : cs.size = n * size) (hx : xs = cs.toList) :
    (w.alloc (.cells cs e)).ownsRow base e size (.slice (some ⟨g, 0, none⟩) n n) n xs := by
  subst hg hx
  exact World.ownsRow_lit w cs n hb hm hs

theorem wpList_append_rds {P : Program} {w : World} {ops : Array Oper} {rest : List Oper} {o : Oper} {a : Act} {Q : Exit → Act → World → Prop} (hgd : o.guard = none) (s x : Operand) (t : TypeId)
    (ho : o.op = .call { callee := .builtin .append, args := #[s, x], argTypes := #[t, t] })
    (base : Nat) (e : TypeId) (i : TypeInfo) (z : Value) (size bytes : Nat) (ht : P.underlying t = some (.slice e)) (hi : P.info? e = some i) (hz : i.zero = some z)
    (hsize : i.size = size) (hby : i.bytes = bytes) (hzs : z.cells.size = size) (hsz : 0 < size)
    (v : Value) (n : Nat) (xs : List Value) (hs : a.eval s = v) (hown : w.ownsRow base e size v n xs)
    (B : Nat) (A : Option Addr) (m c : Nat) (news : List Value) (hx : a.eval x = .slice A m c) (hr : RdS w B size A m c news) (h1 : ∀ u ∈ news, u.oneCell' = true)
    (h63 : n + m ≤ maxLen) (hbytes : (n + m) * bytes ≤ 140737488355328) (hbase : base ≤ w.heap.size)
    (h : ∀ v' w', w'.ownsRow base e size v' (n + m) (xs ++ news) → w.grownBy w' v.ownBlock → (v'.ownBlock = v.ownBlock ∨ v'.ownBlock = some w.heap.size) → wpList P ops Q rest (a.put o.dst v') w') :
    wpList P ops Q (o :: rest) a w := by
  cases A with
  | none =>
    obtain ⟨rfl, rfl⟩ := hr.none_ rfl
    have hnil : news = [] := List.eq_nil_of_length_eq_zero (by simpa using hr.len)
    subst hnil
    exact wpList_append_own_none hgd s x t ho base e i size ht hi v n xs hs hown hx (h v w (by simpa using hown) (World.grownBy.refl w _) (.inl rfl))
  | some ad =>
    exact wpList_append_own_at w hgd s x t ho base e i z size bytes ht hi hz hsize hby hzs hsz v n xs hs hown ad m c news hx hr.len (hr.cell ad rfl) h1 h63 hbytes hbase fun v' w' a1 a2 _ a4 => h v' w' a1 a2 a4

/-- The string of these bytes. -/
def strB (bs : List Int) : ByteArray := bs.foldl (fun r n => r.push (UInt8.ofNat n.toNat)) ByteArray.empty

theorem conv_rds {P : Program} {w : World} {B n c : Nat} {A : Option Addr} {bs : List Int} {src dst e : TypeId} (hs : P.underlying src = some (.slice e)) (he : P.underlying e = some (.int .u8)) (hd : P.underlying dst = some .string)
    (h : RdS w B 1 A n c (bytesV bs)) : (convert src dst (.slice A n c)).run P w = .ok (.string (strB bs)) w := by
  have hl : bs.length = n := by simpa [bytesV] using h.len
  cases A with
  | none =>
    obtain ⟨rfl, rfl⟩ := h.none_ rfl
    obtain rfl : bs = [] := List.eq_nil_of_length_eq_zero hl
    exact run_convert_bytes_nil w src e hs he 0 0 dst hd
  | some a =>
    rw [run_convert_bytes_string w src dst e (some a) n c hs he hd]
    have hld := run_loadCells_list (P := P) w a (bytesV bs) (fun j v hj => h.cell a rfl j v hj)
    have hlen : (bytesV bs).length = n := by simp [bytesV, hl]
    rw [hlen] at hld
    exact run_bytesToString w a n c bs hld
end Go.Proofs.YtinhenmafjoaoaaGreatDoor

/- Words for memory: a block known whole; what a call that writes to some blocks leaves as it was. -/
namespace Go.Proofs.YtinhenmafjoaoaaGreatDoor
open Go.RowKit

/-- Block g is just the cells cs of element type t. -/
def Whole (w : World) (g : Nat) (t : TypeId) (cs : List Value) : Prop := w.heap[g]? = some (.cells cs.toArray t (0, 0))

section
variable {w w' : World} {g : Nat} {t : TypeId} {cs : List Value}
theorem Whole.lt (h : Whole w g t cs) : g < w.heap.size := (Array.getElem?_eq_some_iff.1 h).1
theorem Whole.cell (h : Whole w g t cs) {i : Nat} {v : Value} (hv : cs[i]? = some v) : w.cell? ⟨g, i, none⟩ = some v := by
  rw [cell_of_row w g i _ t (0, 0) h, List.getElem?_toArray, hv]
theorem Whole.free (h : Whole w g t cs) (i : Nat) : w.frozen? ⟨g, i, none⟩ = false := frozen_of_row w g i _ t h
theorem Whole.new_ (w : World) (t : TypeId) (cs : List Value) : Whole (w.alloc (.cells cs.toArray t)) w.heap.size t cs := heap_alloc_new w _
theorem Whole.new2 {w : World} {g : Nat} {t : TypeId} {cs : List Value} (hg : g = w.heap.size) : Whole (w.alloc (.cells cs.toArray t)) g t cs := by
  subst hg
  exact Whole.new_ w t cs
theorem Whole.alloc (h : Whole w g t cs) (o : Obj) : Whole (w.alloc o) g t cs := (Below.heap_alloc w o g h.lt).trans h
theorem Whole.drew (h : Whole w g t cs) : Whole w.drew g t cs := h
theorem Whole.set_ (h : Whole w g t cs) (i : Nat) (u : Value) : Whole (w.setCell ⟨g, i, none⟩ u) g t (cs.set i u) := by
  unfold Whole at h ⊢
  simp [World.setCell, Array.getElem?_modify, h]
theorem Whole.far (h : Whole w g t cs) {p : Addr} (hp : g ≠ p.block) (u : Value) : Whole (w.setCell p u) g t cs := (Below.heap_setCell w p u g hp).trans h
theorem Whole.at_ (h : Whole w g t cs) (hb : w'.heap[g]? = w.heap[g]?) : Whole w' g t cs := hb.trans h
theorem Whole.below (h : Whole w g t cs) (hb : Below w.heap.size w w') : Whole w' g t cs := h.at_ (hb.block g h.lt)
theorem Whole.ne_ {g' : Nat} {t' : TypeId} {cs' : List Value} (h : Whole w g t cs) (h' : Whole w g' t' cs') (hne : t ≠ t') : g ≠ g' := by
  rintro rfl
  unfold Whole at h h'
  rw [h] at h'
  injection h' with h'
  injection h' with _ ht
  exact hne ht
end

/-- Of the blocks that were there those outside S are as they were. -/
structure Kept (S : Nat → Prop) (w w' : World) : Prop where
  os : w'.os = w.os
  tape : w'.tape = w.tape
  output : w'.output = w.output
  size : w.heap.size ≤ w'.heap.size
  block : ∀ i, i < w.heap.size → ¬ S i → w'.heap[i]? = w.heap[i]?

theorem Kept.refl (S : Nat → Prop) (w : World) : Kept S w w := ⟨rfl, rfl, rfl, Nat.le_refl _, fun _ _ _ => rfl⟩
theorem Kept.trans {S : Nat → Prop} {a b c : World} (h : Kept S a b) (k : Kept S b c) : Kept S a c :=
  ⟨k.os.trans h.os, k.tape.trans h.tape, k.output.trans h.output, Nat.le_trans h.size k.size, fun i hi hn => (k.block i (Nat.lt_of_lt_of_le hi h.size) hn).trans (h.block i hi hn)⟩
theorem Kept.wider {S T : Nat → Prop} {a b : World} (h : Kept S a b) (hS : ∀ i, i < a.heap.size → S i → T i) : Kept T a b :=
  ⟨h.os, h.tape, h.output, h.size, fun i hi hn => h.block i hi (fun hs => hn (hS i hi hs))⟩
theorem Kept.of_below {S : Nat → Prop} {a b : World} (h : Below a.heap.size a b) : Kept S a b := ⟨h.os, h.tape, h.output, h.size, fun i hi _ => h.block i hi⟩
theorem Kept.below {S : Nat → Prop} {a b : World} {B : Nat} (h : Kept S a b) (hB : B ≤ a.heap.size) (hS : ∀ i, i < B → ¬ S i) : Below B a b := ⟨h.os, h.tape, h.output, h.size, fun i hi => h.block i (by omega) (hS i hi)⟩
theorem Kept.drew {S : Nat → Prop} {a b : World} (h : Kept S a b) : Kept S a b.drew := ⟨h.os, h.tape, h.output, h.size, h.block⟩
theorem Kept.alloc {S : Nat → Prop} {a b : World} (h : Kept S a b) (o : Obj) : Kept S a (b.alloc o) :=
  h.trans ⟨rfl, rfl, rfl, by simp, fun i hi _ => Below.heap_alloc _ _ _ hi⟩
theorem Kept.setCell {S : Nat → Prop} {a b : World} (h : Kept S a b) {p : Addr} (hp : S p.block ∨ a.heap.size ≤ p.block) (u : Value) : Kept S a (b.setCell p u) :=
  ⟨h.os, h.tape, h.output, by simpa [World.setCell] using h.size, fun i hi hn => (Below.heap_setCell _ _ _ _ (by
    rintro rfl
    rcases hp with hp | hp
    · exact hn hp
    · omega)).trans (h.block i hi hn)⟩
theorem Kept.cell {S : Nat → Prop} {w w' : World} (h : Kept S w w') {p : Addr} {v : Value} (hc : w.cell? p = some v) (hn : ¬ S p.block) : w'.cell? p = some v :=
  (World.cell?_of_block (w := w) (h.block p.block (World.block_lt_of_cell? w p hc) hn)).trans hc
theorem Kept.whole {S : Nat → Prop} {w w' : World} {g : Nat} {t : TypeId} {cs : List Value} (h : Kept S w w') (hg : Whole w g t cs) (hn : ¬ S g) : Whole w' g t cs :=
  hg.at_ (h.block g hg.lt hn)
end Go.Proofs.YtinhenmafjoaoaaGreatDoor

/- A region that draws its order, whose operations read, or call what answers the same in every later world and only makes new memory: it may be walked in one order. -/
namespace Go.Proofs.YtinhenmafjoaoaaGreatDoor
open Go.RowKit

/-- w' is w with new blocks: nothing that was there has turned. -/
def Ext (w w' : World) : Prop := Below w.heap.size w w'
theorem Ext.refl (w : World) : Ext w w := Below.refl _ _
theorem Ext.trans {a b c : World} (h : Ext a b) (k : Ext b c) : Ext a c := Below.trans h (Below.mono k (Below.size h))
theorem Ext.cell {w w' : World} (h : Ext w w') {p : Addr} {v : Value} (hc : w.cell? p = some v) : w'.cell? p = some v := (Below.cell h (World.block_lt_of_cell? w p hc)).trans hc

section
variable {P : Program} {ops : Array Oper} {Q : Exit → Act → World → Prop} {md : Region.Mode}

/-- What an operation comes to: the value v, and a world that has only grown. -/
def Outcome (P : Program) (v : Value) (w : World) : Result Next → Prop
  | .ok (.value u) w' => u = v ∧ Ext w w'
  | .ok (.enter f args) w' => Calls P f args w' fun e w'' => e = .returned v ∧ Ext w w''
  | _ => False

/-- In state a, in w and in every world that w grows to, operation o yields v and only makes new memory. -/
def YieldsK (P : Program) (ops : Array Oper) (o : Oper) (v : Value) (a : Act) (w : World) : Prop :=
  (Region.wanted o (yielded ops a.tmps) = true ∧ ∀ w', Ext w w' → Outcome P v w' ((execOp a.eval o).run P w')) ∨
  (Region.wanted o (yielded ops a.tmps) = false ∧ v = undef)

theorem YieldsK.up {o : Oper} {v : Value} {a : Act} {w w' : World} (h : YieldsK P ops o v a w) (hw : Ext w w') : YieldsK P ops o v a w' :=
  match h with
  | .inl ⟨h1, h2⟩ => .inl ⟨h1, fun w'' h' => h2 w'' (hw.trans h')⟩
  | .inr h2 => .inr h2

theorem YieldsK.same {o : Oper} {v : Value} {a a' : Act} {w : World} (hy : YieldsK P ops o v a w) (he : execOp a'.eval o = execOp a.eval o)
    (hw : Region.wanted o (yielded ops a'.tmps) = Region.wanted o (yielded ops a.tmps)) : YieldsK P ops o v a' w := by
  unfold YieldsK at *
  rw [he, hw]
  exact hy

theorem YieldsK.wpOp {i : Nat} {o : Oper} {v : Value} {a : Act} {w : World} (hi : ops[i]? = some o) (hy : YieldsK P ops o v a w)
    {K : Act → World → Prop} (h : ∀ w', Ext w w' → K (a.put o.dst v) w') : wpOp P ops Q i K a w := by
  unfold Go.wpOp
  simp only [hi]
  rcases hy with ⟨hw, hv⟩ | ⟨hw, rfl⟩
  · simp only [hw, if_true]
    refine .inl ?_
    have h1 := hv w (Ext.refl w)
    unfold Oper.wp
    generalize (execOp a.eval o).run P w = r at *
    cases r with
    | ok n w' =>
      cases n with
      | value u =>
        obtain ⟨rfl, he⟩ := h1
        exact h _ he
      | enter f args =>
        refine Calls.mono h1 fun e w'' he => ?_
        obtain ⟨rfl, hx⟩ := he
        exact h _ hx
      | _ => exact h1.elim
    | halt x w' => exact h1.elim
  · simp only [hw, Bool.false_eq_true, if_false]
    exact h _ (Ext.refl _)

/-- The state is as a's in all that o looks at. -/
def Alike (ops : Array Oper) (o : Oper) (a a' : Act) : Prop := execOp a'.eval o = execOp a.eval o ∧ Region.wanted o (yielded ops a'.tmps) = Region.wanted o (yielded ops a.tmps)

/-- An operation oj that is apart from oi does, without oi's value, what it does with it. -/
theorem wpOp_swap {j : Nat} {oi oj : Oper} {v : Value} (hj : ops[j]? = some oj) (hap : oi.apart ops oj = true)
    (hsi : ∀ cs b, oi.op ≠ .select cs b) (hsj : ∀ cs b, oj.op ≠ .select cs b)
    (hQ : ∀ c a w, Q (.panic c) (a.put oi.dst v) w → Q (.panic c) a w) {K : Act → World → Prop} {a : Act} {w : World}
    (h : wpOp P ops Q j K (a.put oi.dst v) w) :
    wpOp P ops Q j (fun a' w' => Alike ops oi a a' ∧ K (a'.put oi.dst v) w') a w := by
  obtain ⟨h1, h2, h3⟩ := Oper.apart_spec hap
  have keep : ∀ (b : Act), Alike ops oi a b → ∀ u, Alike ops oi a (b.put oj.dst u) := fun b hb u =>
    ⟨(execOp_put oi hsi b oj.dst u h3).trans hb.1, (wanted_put oi b oj.dst u h3).trans hb.2⟩
  have k0 : Alike ops oi a a := ⟨rfl, rfl⟩
  have kD : ∀ d, Alike ops oi a { a with defers := d :: a.defers } := fun d => ⟨rfl, rfl⟩
  unfold wpOp at *
  simp only [hj] at *
  rw [wanted_put oj a oi.dst v h1] at h
  split
  · rename_i hw
    simp only [hw, if_true] at h
    rcases h with h | ⟨hasks, hlets⟩
    case inr => exact .inr ⟨by unfold Oper.asks at *; rw [execOp_put oj hsj a oi.dst v h1] at hasks; exact hasks, hlets⟩
    refine .inl ?_
    unfold Oper.wp at *
    rw [execOp_put oj hsj a oi.dst v h1] at h
    generalize (execOp a.eval oj).run P w = r at *
    cases r with
    | ok n w' =>
      cases n <;> simp only [Oper.upon] at h ⊢
      case value u => exact ⟨keep a k0 u, by rw [← Act.put_comm a v u h2]; exact h⟩
      case skip => exact ⟨keep a k0 _, by rw [← Act.put_comm a v undef h2]; exact h⟩
      case defer d =>
        refine ⟨keep _ (kD d) _, ?_⟩
        rw [← Act.put_comm _ v undef h2, ← Act.put_defers]
        exact h
      case enter f args =>
        refine Calls.mono h fun e w'' he => ?_
        cases e with
        | returned u => exact ⟨keep a k0 u, by rw [← Act.put_comm a v u h2]; exact he⟩
        | panicked c => exact hQ _ _ _ he
        | outgrown => exact he
      case row row args => exact Rows.mono h fun u w'' he => ⟨keep a k0 u, by rw [← Act.put_comm a v u h2]; exact he⟩
    | halt x w' =>
      cases x <;> simp only [Oper.upon] at h ⊢
      case panic u => exact hQ _ _ _ h
  · rename_i hw
    simp only [hw] at h
    exact ⟨keep a k0 _, by rw [← Act.put_comm a v undef h2]; exact h⟩

/-- Whatever order is picked from here on, in this world or in one that it has grown to; behind every operation the world has only grown. -/
def wpK (P : Program) (md : Region.Mode) (ops : Array Oper) (Q : Exit → Act → World → Prop) : Nat → Array Bool → Act → World → Prop
  | 0, listed, a, w => Region.ready md ops listed = [] ∧ ∀ w', Ext w w' → Q .normal a w'
  | fuel + 1, listed, a, w =>
    (Region.ready md ops listed = [] → ∀ w', Ext w w' → Q .normal a w') ∧
    ∀ w', Ext w w' → ∀ i ∈ Region.ready md ops listed, wpOp P ops Q i (fun a' w'' => Ext w' w'' ∧ wpK P md ops Q fuel (listed.setIfInBounds i true) a' w'') a w'

theorem wpK.up : ∀ {fuel : Nat} {listed : Array Bool} {a : Act} {w w' : World}, wpK P md ops Q fuel listed a w → Ext w w' → wpK P md ops Q fuel listed a w'
  | 0, _, _, _, _, h, hw => ⟨h.1, fun w'' h' => h.2 w'' (hw.trans h')⟩
  | _ + 1, _, _, _, _, h, hw => ⟨fun h0 w'' h' => h.1 h0 w'' (hw.trans h'), fun w'' h' => h.2 w'' (hw.trans h')⟩

theorem wpAny_of_K : ∀ (fuel : Nat) (listed : Array Bool) (a : Act) (w : World), wpK P md ops Q fuel listed a w → wpAny P md ops Q fuel listed a w
  | 0, _, _, w, h => ⟨h.1, h.2 w (Ext.refl w)⟩
  | fuel + 1, _, _, w, h => ⟨fun h0 => h.1 h0 w (Ext.refl w), fun i hi => wpOp_mono (fun a' w' h' => wpAny_of_K fuel _ a' w' h'.2) (h.2 w (Ext.refl w) i hi)⟩

theorem wpK_first {i : Nat} {oi : Oper} {v : Value} (hi : ops[i]? = some oi) (hsel : ∀ (j : Nat) (o : Oper) cs b, ops[j]? = some o → o.op ≠ .select cs b)
    (hQ : ∀ c a w, Q (.panic c) (a.put oi.dst v) w → Q (.panic c) a w) :
    ∀ (fuel : Nat) (listed : Array Bool) (a : Act) (w : World),
      (∀ j oj, ops[j]? = some oj → j ≠ i → listed.getD j true = false → (∀ e ∈ oj.after, Region.binds md e = true → e.on ≠ i) → oi.apart ops oj = true) →
      i ∈ Region.ready md ops listed → YieldsK P ops oi v a w →
      wpK P md ops Q fuel (listed.setIfInBounds i true) (a.put oi.dst v) w → wpK P md ops Q (fuel + 1) listed a w := by
  intro fuel
  induction fuel with
  | zero =>
    intro listed a w _ hr hy H
    refine ⟨fun h => (by rw [h] at hr; cases hr), fun w1 hw1 j hj => ?_⟩
    by_cases hji : j = i
    · subst hji
      exact (hy.up hw1).wpOp hi fun w2 hw2 => ⟨hw2, H.up (hw1.trans hw2)⟩
    · have := ready_mono hj hji
      rw [H.1] at this
      cases this
  | succ fuel ih =>
    intro listed a w hfree hr hy H
    refine ⟨fun h => (by rw [h] at hr; cases hr), fun w1 hw1 j hj => ?_⟩
    by_cases hji : j = i
    · subst hji
      exact (hy.up hw1).wpOp hi fun w2 hw2 => ⟨hw2, H.up (hw1.trans hw2)⟩
    · have h1 := H.2 w1 hw1 j (ready_mono hj hji)
      obtain ⟨hjun, oj, hoj, hall⟩ := mem_ready.1 hj
      have hnot : ∀ e ∈ oj.after, Region.binds md e = true → e.on ≠ i := fun e he hb heq => by
        have h1 := hall e he hb
        have h0 := (mem_ready.1 hr).1
        rw [heq] at h1
        rcases Nat.lt_or_ge i listed.size with h' | h'
        · simp [h'] at h0 h1
          rw [h0] at h1
          cases h1
        · simp [Array.getElem?_eq_none h'] at h1
      have h2 := wpOp_swap hoj (hfree j oj hoj hji hjun hnot) (fun cs b => hsel i oi cs b hi) (fun cs b => hsel j oj cs b hoj) hQ h1
      have hfree' : ∀ k ok, ops[k]? = some ok → k ≠ i → (listed.setIfInBounds j true).getD k true = false →
          (∀ e ∈ ok.after, Region.binds md e = true → e.on ≠ i) → oi.apart ops ok = true := fun k ok hk hki hun hno => by
        refine hfree k ok hk hki ?_ hno
        by_cases hjk : j = k
        · subst hjk
          exact hjun
        · rw [getD_set_ne true hjk] at hun
          exact hun
      refine wpOp_mono (fun a' w' h3 => ⟨h3.2.1, ih (listed.setIfInBounds j true) a' w' hfree' (ready_mono hr (Ne.symm hji)) ?_ ?_⟩) h2
      · exact (hy.up (hw1.trans h3.2.1)).same h3.1.1 h3.1.2
      · rw [Array.setIfInBounds_comm _ _ hji]
        exact h3.2.2

/-- Take operation number i next. -/
theorem wpK_take {i : Nat} {oi : Oper} {v : Value} {fuel : Nat} {listed : Array Bool} {a : Act} {w : World} (hi : ops[i]? = some oi)
    (hs : Region.noSelect ops = true) (hf : Region.free md ops listed i = true) (hr : (Region.ready md ops listed).contains i = true)
    (hQ : ∀ c a w, Q (.panic c) (a.put oi.dst v) w → Q (.panic c) a w) (hy : YieldsK P ops oi v a w)
    (h : wpK P md ops Q fuel (listed.setIfInBounds i true) (a.put oi.dst v) w) : wpK P md ops Q (fuel + 1) listed a w :=
  wpK_first hi (Region.noSelect_spec hs) hQ fuel listed a w (Region.free_spec hi hf) (by simpa using hr) hy h

/-- The same, the value found on the way: 'apply Exists.intro; apply And.intro' behind it. -/
theorem wpK_next (i : Nat) (d : Option Tmp) {oi : Oper} {fuel : Nat} {listed : Array Bool} {a : Act} {w : World} (hi : ops[i]? = some oi) (hd : oi.dst = d)
    (hs : Region.noSelect ops = true) (hf : Region.free md ops listed i = true) (hr : (Region.ready md ops listed).contains i = true)
    (hQ : ∀ v c a w, Q (.panic c) (a.put d v) w → Q (.panic c) a w)
    (h : ∃ v, YieldsK P ops oi v a w ∧ wpK P md ops Q fuel (listed.setIfInBounds i true) (a.put d v) w) : wpK P md ops Q (fuel + 1) listed a w := by
  subst hd
  obtain ⟨v, hy, hk⟩ := h
  exact wpK_take hi hs hf hr (hQ v) hy hk

theorem wpK_done {listed : Array Bool} {a : Act} {w : World} (hr : Region.ready md ops listed = []) (h : ∀ w', Ext w w' → Q .normal a w') : ∀ fuel, wpK P md ops Q fuel listed a w
  | 0 => ⟨hr, h⟩
  | _ + 1 => ⟨fun _ => h, by rw [hr]; simp⟩

/-- The beginning. -/
theorem wp_region_calm {id : Nat} {a : Act} {w : World} (hm : P.follows .mixedOrders = true)
    (h : wpK P .any ops Q ops.size (Array.replicate ops.size false) a w.drew) : (Code.region id ops true).wp P Q a w :=
  wp_region_any hm (wpAny_of_K _ _ _ _ h)

/-- An operation that is not wanted. -/
theorem yk_skip {o : Oper} {a : Act} {w : World} (h : Region.wanted o (yielded ops a.tmps) = false) : YieldsK P ops o undef a w := .inr ⟨h, rfl⟩
/-- An operation that reads. -/
theorem yk_run {o : Oper} {v : Value} {a : Act} {w : World} (h : Region.wanted o (yielded ops a.tmps) = true) (hr : ∀ w', Ext w w' → (execOp a.eval o).run P w' = .ok (.value v) w') : YieldsK P ops o v a w :=
  .inl ⟨h, fun w' hw => by rw [hr w' hw]; exact ⟨rfl, Ext.refl _⟩⟩
/-- A call. -/
theorem yk_call {o : Oper} {v : Value} {a : Act} {w : World} {f : FuncId} {args : Array Value} (h : Region.wanted o (yielded ops a.tmps) = true)
    (hr : ∀ w', (execOp a.eval o).run P w' = .ok (.enter f args) w') (hc : ∀ w', Ext w w' → Calls P f args w' fun e w'' => e = .returned v ∧ Below w'.heap.size w' w'') : YieldsK P ops o v a w :=
  .inl ⟨h, fun w' hw => by rw [hr w']; exact hc w' hw⟩
end
end Go.Proofs.YtinhenmafjoaoaaGreatDoor

/- A region that draws its order, whose operations read, or call what answers the same in every later world; and calls that turn memory, where nothing else is ready beside them: it may be walked in one order. -/
namespace Go.Proofs.YtinhenmafjoaoaaGreatDoor
open Go.RowKit

theorem Kept.of_ext {S : Nat → Prop} {w w' : World} (h : Ext w w') : Kept S w w' := Kept.of_below h

section
variable {P : Program} {ops : Array Oper} {Q : Exit → Act → World → Prop} {md : Region.Mode} {S : Nat → Prop}

/-- In state a, in w and in every world that w may come to within the region, operation o yields v and only makes new memory. -/
def YieldsR (P : Program) (ops : Array Oper) (S : Nat → Prop) (o : Oper) (v : Value) (a : Act) (w : World) : Prop :=
  (Region.wanted o (yielded ops a.tmps) = true ∧ ∀ w', Kept S w w' → Outcome P v w' ((execOp a.eval o).run P w')) ∨
  (Region.wanted o (yielded ops a.tmps) = false ∧ v = undef)

theorem YieldsR.up {o : Oper} {v : Value} {a : Act} {w w' : World} (h : YieldsR P ops S o v a w) (hw : Kept S w w') : YieldsR P ops S o v a w' :=
  match h with
  | .inl ⟨h1, h2⟩ => .inl ⟨h1, fun w'' h' => h2 w'' (hw.trans h')⟩
  | .inr h2 => .inr h2

theorem YieldsR.same {o : Oper} {v : Value} {a a' : Act} {w : World} (hy : YieldsR P ops S o v a w) (he : execOp a'.eval o = execOp a.eval o)
    (hw : Region.wanted o (yielded ops a'.tmps) = Region.wanted o (yielded ops a.tmps)) : YieldsR P ops S o v a' w := by
  unfold YieldsR at *
  rw [he, hw]
  exact hy

theorem YieldsR.wpOp {i : Nat} {o : Oper} {v : Value} {a : Act} {w : World} (hi : ops[i]? = some o) (hy : YieldsR P ops S o v a w)
    {K : Act → World → Prop} (h : ∀ w', Ext w w' → K (a.put o.dst v) w') : wpOp P ops Q i K a w := by
  unfold Go.wpOp
  simp only [hi]
  rcases hy with ⟨hw, hv⟩ | ⟨hw, rfl⟩
  · simp only [hw, if_true]
    refine .inl ?_
    have h1 := hv w (Kept.refl _ w)
    unfold Oper.wp
    generalize (execOp a.eval o).run P w = r at *
    cases r with
    | ok n w' =>
      cases n with
      | value u =>
        obtain ⟨rfl, he⟩ := h1
        exact h _ he
      | enter f args =>
        refine Calls.mono h1 fun e w'' he => ?_
        obtain ⟨rfl, hx⟩ := he
        exact h _ hx
      | _ => exact h1.elim
    | halt x w' => exact h1.elim
  · simp only [hw, Bool.false_eq_true, if_false]
    exact h _ (Ext.refl _)

/-- Whatever order is picked from here on, in this world or in one that it has grown to; behind every operation only what S lets has turned. -/
def wpR (P : Program) (md : Region.Mode) (ops : Array Oper) (S : Nat → Prop) (Q : Exit → Act → World → Prop) : Nat → Array Bool → Act → World → Prop
  | 0, listed, a, w => Region.ready md ops listed = [] ∧ ∀ w', Ext w w' → Q .normal a w'
  | fuel + 1, listed, a, w =>
    (Region.ready md ops listed = [] → ∀ w', Ext w w' → Q .normal a w') ∧
    ∀ w', Ext w w' → ∀ i ∈ Region.ready md ops listed, wpOp P ops Q i (fun a' w'' => Kept S w' w'' ∧ wpR P md ops S Q fuel (listed.setIfInBounds i true) a' w'') a w'

theorem wpR.up : ∀ {fuel : Nat} {listed : Array Bool} {a : Act} {w w' : World}, wpR P md ops S Q fuel listed a w → Ext w w' → wpR P md ops S Q fuel listed a w'
  | 0, _, _, _, _, h, hw => ⟨h.1, fun w'' h' => h.2 w'' (hw.trans h')⟩
  | _ + 1, _, _, _, _, h, hw => ⟨fun h0 w'' h' => h.1 h0 w'' (hw.trans h'), fun w'' h' => h.2 w'' (hw.trans h')⟩

theorem wpAny_of_R : ∀ (fuel : Nat) (listed : Array Bool) (a : Act) (w : World), wpR P md ops S Q fuel listed a w → wpAny P md ops Q fuel listed a w
  | 0, _, _, w, h => ⟨h.1, h.2 w (Ext.refl w)⟩
  | fuel + 1, _, _, w, h => ⟨fun h0 => h.1 h0 w (Ext.refl w), fun i hi => wpOp_mono (fun a' w' h' => wpAny_of_R fuel _ a' w' h'.2) (h.2 w (Ext.refl w) i hi)⟩

theorem wpR_first {i : Nat} {oi : Oper} {v : Value} (hi : ops[i]? = some oi) (hsel : ∀ (j : Nat) (o : Oper) cs b, ops[j]? = some o → o.op ≠ .select cs b)
    (hQ : ∀ c a w, Q (.panic c) (a.put oi.dst v) w → Q (.panic c) a w) :
    ∀ (fuel : Nat) (listed : Array Bool) (a : Act) (w : World),
      (∀ j oj, ops[j]? = some oj → j ≠ i → listed.getD j true = false → (∀ e ∈ oj.after, Region.binds md e = true → e.on ≠ i) → oi.apart ops oj = true) →
      i ∈ Region.ready md ops listed → YieldsR P ops S oi v a w →
      wpR P md ops S Q fuel (listed.setIfInBounds i true) (a.put oi.dst v) w → wpR P md ops S Q (fuel + 1) listed a w := by
  intro fuel
  induction fuel with
  | zero =>
    intro listed a w _ hr hy H
    refine ⟨fun h => (by rw [h] at hr; cases hr), fun w1 hw1 j hj => ?_⟩
    by_cases hji : j = i
    · subst hji
      exact (hy.up (Kept.of_ext hw1)).wpOp hi fun w2 hw2 => ⟨Kept.of_ext hw2, H.up (hw1.trans hw2)⟩
    · have := ready_mono hj hji
      rw [H.1] at this
      cases this
  | succ fuel ih =>
    intro listed a w hfree hr hy H
    refine ⟨fun h => (by rw [h] at hr; cases hr), fun w1 hw1 j hj => ?_⟩
    by_cases hji : j = i
    · subst hji
      exact (hy.up (Kept.of_ext hw1)).wpOp hi fun w2 hw2 => ⟨Kept.of_ext hw2, H.up (hw1.trans hw2)⟩
    · have h1 := H.2 w1 hw1 j (ready_mono hj hji)
      obtain ⟨hjun, oj, hoj, hall⟩ := mem_ready.1 hj
      have hnot : ∀ e ∈ oj.after, Region.binds md e = true → e.on ≠ i := fun e he hb heq => by
        have h1 := hall e he hb
        have h0 := (mem_ready.1 hr).1
        rw [heq] at h1
        rcases Nat.lt_or_ge i listed.size with h' | h'
        · simp [h'] at h0 h1
          rw [h0] at h1
          cases h1
        · simp [Array.getElem?_eq_none h'] at h1
      have h2 := wpOp_swap hoj (hfree j oj hoj hji hjun hnot) (fun cs b => hsel i oi cs b hi) (fun cs b => hsel j oj cs b hoj) hQ h1
      have hfree' : ∀ k ok, ops[k]? = some ok → k ≠ i → (listed.setIfInBounds j true).getD k true = false →
          (∀ e ∈ ok.after, Region.binds md e = true → e.on ≠ i) → oi.apart ops ok = true := fun k ok hk hki hun hno => by
        refine hfree k ok hk hki ?_ hno
        by_cases hjk : j = k
        · subst hjk
          exact hjun
        · rw [getD_set_ne true hjk] at hun
          exact hun
      refine wpOp_mono (fun a' w' h3 => ⟨h3.2.1, ih (listed.setIfInBounds j true) a' w' hfree' (ready_mono hr (Ne.symm hji)) ?_ ?_⟩) h2
      · exact (hy.up ((Kept.of_ext hw1).trans h3.2.1)).same h3.1.1 h3.1.2
      · rw [Array.setIfInBounds_comm _ _ hji]
        exact h3.2.2

/-- Take operation number i next, whose value is the same in every later world: 'apply Exists.intro; apply And.intro' behind it. -/
theorem wpR_next (i : Nat) (d : Option Tmp) {oi : Oper} {fuel : Nat} {listed : Array Bool} {a : Act} {w : World} (hi : ops[i]? = some oi) (hd : oi.dst = d)
    (hs : Region.noSelect ops = true) (hf : Region.free md ops listed i = true) (hr : (Region.ready md ops listed).contains i = true)
    (hQ : ∀ v c a w, Q (.panic c) (a.put d v) w → Q (.panic c) a w)
    (h : ∃ v, YieldsR P ops S oi v a w ∧ wpR P md ops S Q fuel (listed.setIfInBounds i true) (a.put d v) w) : wpR P md ops S Q (fuel + 1) listed a w := by
  subst hd
  obtain ⟨v, hy, hk⟩ := h
  exact wpR_first hi (Region.noSelect_spec hs) (hQ v) fuel listed a w (Region.free_spec hi hf) (by simpa using hr) hy hk

/-- Take operation number i, the only one that is ready, a call: whatever it does. -/
theorem wpR_call (i : Nat) (d : Option Tmp) {oi : Oper} {fuel : Nat} {listed : Array Bool} {a : Act} {w : World} {f : FuncId} {args : Array Value} (hi : ops[i]? = some oi) (hd : oi.dst = d)
    (hr : Region.ready md ops listed = [i]) (hw : Region.wanted oi (yielded ops a.tmps) = true)
    (he : ∀ w', (execOp a.eval oi).run P w' = .ok (.enter f args) w')
    (h : ∀ w', Ext w w' → Calls P f args w' fun e w'' => ∃ v, e = .returned v ∧ Kept S w' w'' ∧ wpR P md ops S Q fuel (listed.setIfInBounds i true) (a.put d v) w'') : wpR P md ops S Q (fuel + 1) listed a w := by
  subst hd
  refine ⟨fun h0 => (by rw [h0] at hr; cases hr), fun w1 hw1 j hj => ?_⟩
  rw [hr] at hj
  obtain rfl := List.mem_singleton.1 hj
  unfold Go.wpOp
  simp only [hi, hw, if_true]
  refine .inl ?_
  unfold Oper.wp
  rw [he w1]
  refine Calls.mono (h w1 hw1) fun e w'' hx => ?_
  obtain ⟨v, rfl, hk, hn⟩ := hx
  exact ⟨hk, hn⟩

/-- Take operation number i, the only one that is ready, whatever it does: by the laws of operations. -/
theorem wpR_only (i : Nat) {oi : Oper} {fuel : Nat} {listed : Array Bool} {a : Act} {w : World} (hi : ops[i]? = some oi)
    (hr : Region.ready md ops listed = [i]) (hw : Region.wanted oi (yielded ops a.tmps) = true)
    (h : ∀ w', Ext w w' → Oper.wp P oi a w' (fun a' w'' => Kept S w' w'' ∧ wpR P md ops S Q fuel (listed.setIfInBounds i true) a' w'') Q) : wpR P md ops S Q (fuel + 1) listed a w := by
  refine ⟨fun h0 => (by rw [h0] at hr; cases hr), fun w1 hw1 j hj => ?_⟩
  rw [hr] at hj
  obtain rfl := List.mem_singleton.1 hj
  unfold Go.wpOp
  simp only [hi, hw, if_true]
  exact .inl (h w1 hw1)

/-- Take operation number i, the only one that is ready, no call: it answers and may turn the world. -/
theorem wpR_run (i : Nat) (d : Option Tmp) {oi : Oper} {fuel : Nat} {listed : Array Bool} {a : Act} {w : World} (hi : ops[i]? = some oi) (hd : oi.dst = d)
    (hr : Region.ready md ops listed = [i]) (hw : Region.wanted oi (yielded ops a.tmps) = true)
    (h : ∀ w', Ext w w' → ∃ v w'', (execOp a.eval oi).run P w' = .ok (.value v) w'' ∧ Kept S w' w'' ∧ wpR P md ops S Q fuel (listed.setIfInBounds i true) (a.put d v) w'') : wpR P md ops S Q (fuel + 1) listed a w := by
  subst hd
  refine wpR_only i hi hr hw fun w' hx => ?_
  obtain ⟨v, w'', h1, h2, h3⟩ := h w' hx
  unfold Oper.wp
  rw [h1]
  exact ⟨h2, h3⟩

theorem exec_append {ev : Operand → Value} {o : Oper} {w w' : World} {s x : Operand} {t : TypeId} {v u v' : Value} (ho : o.op = .call { callee := .builtin .append, args := #[s, x], argTypes := #[t, t] })
    (hs : ev s = v) (hx : ev x = u) (hrun : (Builtin.append_ #[t, t] o.type #[v, u]).run P w = .ok v' w') : (execOp ev o).run P w = .ok (.value v') w' := by
  unfold execOp
  simp only [ho, resolve, invoke, builtin, Sem.run_bind, Sem.run_pure, Result.andThen_ok, List.map_toArray, List.map_cons, List.map_nil, hs, hx, hrun]

theorem wpR_done {listed : Array Bool} {a : Act} {w : World} (hr : Region.ready md ops listed = []) (h : ∀ w', Ext w w' → Q .normal a w') : ∀ fuel, wpR P md ops S Q fuel listed a w
  | 0 => ⟨hr, h⟩
  | _ + 1 => ⟨fun _ => h, by rw [hr]; simp⟩

/-- The beginning. -/
theorem wp_region_reg (S : Nat → Prop) {id : Nat} {a : Act} {w : World} (hm : P.follows .mixedOrders = true)
    (h : wpR P .any ops S Q ops.size (Array.replicate ops.size false) a w.drew) : (Code.region id ops true).wp P Q a w :=
  wp_region_any hm (wpAny_of_R _ _ _ _ h)

/-- An operation that is not wanted. -/
theorem yr_skip {o : Oper} {a : Act} {w : World} (h : Region.wanted o (yielded ops a.tmps) = false) : YieldsR P ops S o undef a w := .inr ⟨h, rfl⟩
/-- An operation that reads. -/
theorem yr_run {o : Oper} {v : Value} {a : Act} {w : World} (h : Region.wanted o (yielded ops a.tmps) = true) (hr : ∀ w', Kept S w w' → (execOp a.eval o).run P w' = .ok (.value v) w') : YieldsR P ops S o v a w :=
  .inl ⟨h, fun w' hw => by rw [hr w' hw]; exact ⟨rfl, Ext.refl _⟩⟩
/-- A call. -/
theorem yr_call {o : Oper} {v : Value} {a : Act} {w : World} {f : FuncId} {args : Array Value} (h : Region.wanted o (yielded ops a.tmps) = true)
    (hr : ∀ w', (execOp a.eval o).run P w' = .ok (.enter f args) w') (hc : ∀ w', Kept S w w' → Calls P f args w' fun e w'' => e = .returned v ∧ Below w'.heap.size w' w'') : YieldsR P ops S o v a w :=
  .inl ⟨h, fun w' hw => by rw [hr w']; exact hc w' hw⟩
end
end Go.Proofs.YtinhenmafjoaoaaGreatDoor

/- A drawn region with stores. -/
namespace Go.Proofs.YtinhenmafjoaoaaGreatDoor
open Go.RowKit

section
variable {P : Program} {md : Region.Mode} {ops : Array Oper} {S : Nat → Prop} {Q : Exit → Act → World → Prop}
/-- Take operation number i, the only one that is ready, a store. -/
theorem wpR_store (i : Nat) {oi : Oper} {fuel : Nat} {listed : Array Bool} {a : Act} {w : World} (hi : ops[i]? = some oi) (hd : oi.dst = none)
    (hr : Region.ready md ops listed = [i]) (hw : Region.wanted oi (yielded ops a.tmps) = true)
    (h : ∀ w', Ext w w' → ∃ w'', (execOp a.eval oi).run P w' = .ok .skip w'' ∧ Kept S w' w'' ∧ wpR P md ops S Q fuel (listed.setIfInBounds i true) a w'') : wpR P md ops S Q (fuel + 1) listed a w := by
  refine wpR_only i hi hr hw fun w' hx => ?_
  obtain ⟨w'', h1, h2, h3⟩ := h w' hx
  unfold Oper.wp
  rw [h1]
  refine ⟨h2, ?_⟩
  rw [hd]
  exact h3
end
end Go.Proofs.YtinhenmafjoaoaaGreatDoor

/- In a drawn region: the load of a whole block. -/
namespace Go.Proofs.YtinhenmafjoaoaaGreatDoor
open Go.RowKit

def Nil_ (_ : Nat) : Prop := False
theorem Kept.nil_cell {w w' : World} (h : Kept Nil_ w w') {p : Addr} {v : Value} (hc : w.cell? p = some v) : w'.cell? p = some v := h.cell hc (fun e => e)

theorem load_row_run {P : Program} {ev : Operand → Value} {o : Oper} {w : World} (ty : TypeId) (x : Operand) (ho : o.op = .load ty x)
    (g : Nat) (hx : ev x = .pointer (some ⟨g, 0, none⟩)) (t : TypeId) (cs : List Value) (d : TypeDesc) (hg : Whole w g t cs)
    (hu : P.underlying ty = some d) (hd : (match d with | .struct _ | .array _ _ => true | _ => false) = true) (hi : (P.info? ty).map (·.size) = some cs.length) :
    (execOp ev o).run P w = .ok (.value (.agg cs.toArray)) w := by
  have h1 : (Instr.loadAt ty (ev x)).run P w = .ok (.agg cs.toArray) w := by
    rw [hx]
    simp only [Instr.loadAt, Instr.sureAddr, Sem.run_bind, Sem.run_pure, Result.andThen]
    exact run_loadVar_row w g t ty cs.toArray (0, 0) d hg hu hd (by simpa using hi)
  unfold execOp
  simp only [ho, Sem.run_bind, Sem.run_pure, Result.andThen_ok, h1]

theorem exec_binop_agg {P : Program} {ev : Operand → Value} {o : Oper} {w : World} (op : BinOp) (t : TypeId) (x y : Operand) (t' : TypeId) (ho : o.op = .binOp op t x y t') {xs ys : Array Value} {v : Value}
    (hx : ev x = .agg xs) (hy : ev y = .agg ys) (hm : P.eqGuardType P.depth t = false) (hb : (binOp op t (.agg xs) (.agg ys)).run P w = .ok v w) : (execOp ev o).run P w = .ok (.value v) w := by
  unfold execOp
  simp only [ho, Sem.run_bind, Sem.run_pure, Result.andThen_ok, hx, hy, run_eqGuard_agg (w := w) op t x y xs ys hm, hb]

section
variable {P : Program} {ops : Array Oper} {S : Nat → Prop}
theorem yr_load {o : Oper} {a : Act} {w : World} (h : Region.wanted o (yielded ops a.tmps) = true) (ty : TypeId) (x : Operand) (ho : o.op = .load ty x)
    (g : Nat) (hx : a.eval x = .pointer (some ⟨g, 0, none⟩)) (t : TypeId) (cs : List Value) (d : TypeDesc) (hg : ∀ w', Kept S w w' → Whole w' g t cs)
    (hu : P.underlying ty = some d) (hd : (match d with | .struct _ | .array _ _ => true | _ => false) = true) (hi : (P.info? ty).map (·.size) = some cs.length) :
    YieldsR P ops S o (.agg cs.toArray) a w :=
  yr_run h fun w' hw => load_row_run ty x ho g hx t cs d (hg w' hw) hu hd hi
end

/-! A region that does not draw, operation by operation. -/
section
variable {P : Program} {ops : Array Oper} {rest : List Oper} {o : Oper} {a : Act} {w : World} {Q : Exit → Act → World → Prop}
theorem wl_run (d : Option Tmp) (hd : o.dst = d) (hw : Region.wanted o (yielded ops a.tmps) = true) {v : Value} {w' : World} (hrun : (execOp a.eval o).run P w = .ok (.value v) w')
    (h : wpList P ops Q rest (a.put d v) w') : wpList P ops Q (o :: rest) a w := by
  subst hd
  refine wpList_step fun K hK => ?_
  rw [if_pos hw]
  unfold Oper.wp
  rw [hrun, Oper.upon_value]
  exact hK _ _ h
theorem wl_read (d : Option Tmp) (hd : o.dst = d) (hw : Region.wanted o (yielded ops a.tmps) = true) {v : Value} (hrun : (execOp a.eval o).run P w = .ok (.value v) w)
    (h : wpList P ops Q rest (a.put d v) w) : wpList P ops Q (o :: rest) a w := wl_run d hd hw hrun h
theorem wl_load (d : Option Tmp) (hd : o.dst = d) (hw : Region.wanted o (yielded ops a.tmps) = true) (ty : TypeId) (x : Operand) (ho : o.op = .load ty x)
    (g : Nat) (hx : a.eval x = .pointer (some ⟨g, 0, none⟩)) (t : TypeId) (cs : List Value) (td : TypeDesc) (hg : Whole w g t cs)
    (hu : P.underlying ty = some td) (hs : (match td with | .struct _ | .array _ _ => true | _ => false) = true) (hi : (P.info? ty).map (·.size) = some cs.length)
    (h : wpList P ops Q rest (a.put d (.agg cs.toArray)) w) : wpList P ops Q (o :: rest) a w := wl_read d hd hw (load_row_run ty x ho g hx t cs td hg hu hs hi) h
theorem wl_skip (d : Option Tmp) (hd : o.dst = d) (hw : Region.wanted o (yielded ops a.tmps) = false) (h : wpList P ops Q rest (a.put d undef) w) : wpList P ops Q (o :: rest) a w := by
  subst hd
  refine wpList_step fun K hK => ?_
  rw [if_neg (by simp [hw])]
  exact hK _ _ h
end
end Go.Proofs.YtinhenmafjoaoaaGreatDoor

/- Words for a chain of calls that only make new memory. -/
namespace Go.Proofs.YtinhenmafjoaoaaGreatDoor
open Go.RowKit

theorem bel_al {w0 w : World} (h : Below w0.heap.size w0 w) (o : Obj) : Below w0.heap.size w0 (w.alloc o) := h.alloc h.size o
theorem bel_bl {w0 w w' : World} (h : Below w0.heap.size w0 w) (hb : Below w.heap.size w w') : Below w0.heap.size w0 w' := h.trans (hb.mono h.size)
theorem bel_dr {w0 w : World} (h : Below w0.heap.size w0 w) : Below w0.heap.size w0 w.drew := h.drew
theorem RdS.al {w : World} {size n c : Nat} {A : Option Addr} {xs : List Value} (h : RdS w w.heap.size size A n c xs) (o : Obj) : RdS (w.alloc o) (w.alloc o).heap.size size A n c xs :=
  h.up ((Below.refl _ _).alloc (Nat.le_refl _) o) (by simp)
theorem RdS.bl {w w' : World} {size n c : Nat} {A : Option Addr} {xs : List Value} (h : RdS w w.heap.size size A n c xs) (hb : Below w.heap.size w w') : RdS w' w'.heap.size size A n c xs := h.up hb hb.size
theorem RdS.dr {w : World} {size n c : Nat} {A : Option Addr} {xs : List Value} (h : RdS w w.heap.size size A n c xs) : RdS w.drew w.drew.heap.size size A n c xs := h.up ((Below.refl _ _).drew) (Nat.le_refl _)
theorem Whole.al {w : World} {g : Nat} {t : TypeId} {cs : List Value} (h : Whole w g t cs) (o : Obj) : Whole (w.alloc o) g t cs := h.alloc o
theorem Whole.bl {w w' : World} {g : Nat} {t : TypeId} {cs : List Value} (h : Whole w g t cs) (hb : Below w.heap.size w w') : Whole w' g t cs := h.below hb
theorem Whole.dr {w : World} {g : Nat} {t : TypeId} {cs : List Value} (h : Whole w g t cs) : Whole w.drew g t cs := h.drew
end Go.Proofs.YtinhenmafjoaoaaGreatDoor

/- Rows of structs in memory: a list of elements, each some cells; an element taken out of a row; a new variable of the call's own. -/
namespace Go.Proofs.YtinhenmafjoaoaaGreatDoor
open Go.RowKit

section
variable {α : Type} (f : α → List Value)
def rowsV : List α → List Value
  | [] => []
  | x :: l => f x ++ rowsV l
theorem rowsV_length {s : Nat} (hs : ∀ x, (f x).length = s) (l : List α) : (rowsV f l).length = l.length * s := by
  induction l with
  | nil => simp [rowsV]
  | cons x l ih => simp [rowsV, ih, hs, Nat.succ_mul]; omega
theorem rowsV_app (l m : List α) : rowsV f (l ++ m) = rowsV f l ++ rowsV f m := by
  induction l with
  | nil => rfl
  | cons x l ih => simp [rowsV, ih]
theorem rowsV_get {s : Nat} (hs : ∀ x, (f x).length = s) (l : List α) (k : Nat) (x : α) (hk : l[k]? = some x) (j : Nat) (v : Value) (hv : (f x)[j]? = some v) : (rowsV f l)[k * s + j]? = some v := by
  induction l generalizing k with
  | nil => simp at hk
  | cons y l ih =>
    have hj : j < s := by
      rw [← hs x]
      rcases Nat.lt_or_ge j (f x).length with h | h
      · exact h
      · rw [List.getElem?_eq_none h] at hv; cases hv
    cases k with
    | zero =>
      simp at hk
      subst hk
      simp only [rowsV, Nat.zero_mul, Nat.zero_add]
      rw [List.getElem?_append_left (by rw [hs]; exact hj)]
      exact hv
    | succ k =>
      simp only [rowsV]
      rw [List.getElem?_append_right (by rw [hs, Nat.succ_mul]; omega), hs, show (k + 1) * s + j - s = k * s + j by rw [Nat.succ_mul]; omega]
      exact ih k (by simpa using hk)
theorem rowsV_take {s : Nat} (hs : ∀ x, (f x).length = s) (l : List α) (k : Nat) : rowsV f (l.take k) = (rowsV f l).take (k * s) := by
  induction l generalizing k with
  | nil => simp [rowsV]
  | cons x l ih =>
    cases k with
    | zero => simp [rowsV]
    | succ k =>
      simp only [List.take_succ_cons, rowsV, ih, Nat.succ_mul]
      rw [List.take_append, hs, List.take_of_length_le (l := f x) (by rw [hs]; omega), show k * s + s - s = k * s by omega]
theorem rowsV_drop {s : Nat} (hs : ∀ x, (f x).length = s) (l : List α) (k : Nat) : rowsV f (l.drop k) = (rowsV f l).drop (k * s) := by
  induction l generalizing k with
  | nil => simp [rowsV]
  | cons x l ih =>
    cases k with
    | zero => simp [rowsV]
    | succ k =>
      simp only [List.drop_succ_cons, rowsV, ih, Nat.succ_mul]
      rw [List.drop_append, hs, List.drop_of_length_le (l := f x) (by rw [hs]; omega), show k * s + s - s = k * s by omega]
      simp
theorem rowsV_one (h : ∀ x, ∀ u ∈ f x, u.oneCell' = true) (l : List α) : ∀ u ∈ rowsV f l, u.oneCell' = true := by
  induction l with
  | nil => simp [rowsV]
  | cons x l ih =>
    intro u hu
    rcases List.mem_append.1 hu with hu | hu
    · exact h x u hu
    · exact ih u hu
end

section
variable {w : World} {B n c s : Nat} {A : Option Addr} {α : Type} {f : α → List Value} {L : List α}
theorem RdS.rlen (hs : ∀ x, (f x).length = s) (h0 : 0 < s) (h : RdS w B s A n c (rowsV f L)) : L.length = n := by
  have := h.len
  rw [rowsV_length f hs] at this
  exact Nat.eq_of_mul_eq_mul_right h0 this
/-- Where the elements of a row lie. -/
theorem RdS.place (hs : ∀ x, (f x).length = s) (h0 : 0 < s) (h : RdS w B s A n c (rowsV f L)) (hn : 0 < n) :
    ∃ b off, A = some ⟨b, off, none⟩ ∧ b < B ∧ ∀ k x, L[k]? = some x → ∀ j v, (f x)[j]? = some v → w.cell? (Addr.add ⟨b, off + k * s, none⟩ j) = some v := by
  have hl := h.rlen hs h0
  cases A with
  | none => exact absurd (h.none_ rfl).1 (by omega)
  | some a =>
    have ha : ∃ b off, a = ⟨b, off, none⟩ := by
      obtain ⟨b, off, g⟩ := a
      cases g with
      | none => exact ⟨b, off, rfl⟩
      | some g =>
        have hx : L[0]? = some (L[0]'(by omega)) := List.getElem?_eq_getElem (by omega)
        obtain ⟨v, hv⟩ : ∃ v, (f (L[0]'(by omega)))[0]? = some v := ⟨_, List.getElem?_eq_getElem (by rw [hs (L[0]'(by omega))]; exact h0)⟩
        have h1 := h.cell _ rfl _ _ (rowsV_get f hs L 0 _ hx 0 v hv)
        simp [Addr.add, World.cell?] at h1
        split at h1 <;> cases h1
    obtain ⟨b, off, rfl⟩ := ha
    refine ⟨b, off, rfl, h.low _ rfl hn, fun k x hk j v hv => ?_⟩
    have := h.cell _ rfl _ _ (rowsV_get f hs L k x hk j v hv)
    have e : (⟨b, off, none⟩ : Addr).add (k * s + j) = (⟨b, off + k * s, none⟩ : Addr).add j := by
      simp only [Addr.add_lit, Nat.add_assoc]
    rw [← e]
    exact this
end

theorem run_loadAt_at {P : Program} (w : World) (ty : TypeId) (ad : Addr) (cs : List Value) (d : TypeDesc) (hc : ∀ j v, cs[j]? = some v → w.cell? (ad.add j) = some v)
    (hu : P.underlying ty = some d) (hd : (match d with | .struct _ | .array _ _ => true | _ => false) = true) (hi : (P.info? ty).map (·.size) = some cs.length) :
    (Instr.loadAt ty (.pointer (some ad))).run P w = .ok (.agg cs.toArray) w := by
  have hl : (loadCells ad cs.length).run P w = .ok cs.toArray w := run_loadCells_list (P := P) w ad cs hc
  cases hq : P.info? ty with
  | none => simp [hq] at hi
  | some i =>
    have hs : i.size = cs.length := by simpa [hq] using hi
    have hagg : (isAgg ty).run P w = .ok true w := by
      unfold isAgg
      rw [Sem.run_bind, run_underlying hu w]
      cases d <;> simp_all
    simp [Instr.loadAt, Instr.sureAddr, loadVar, Sem.run_bind, hagg, sizeOf, typeInfo, hq, hs, hl]

theorem load_at_run {P : Program} {ev : Operand → Value} {o : Oper} {w : World} (ty : TypeId) (x : Operand) (ho : o.op = .load ty x) (ad : Addr) (hx : ev x = .pointer (some ad)) (cs : List Value) (d : TypeDesc)
    (hc : ∀ j v, cs[j]? = some v → w.cell? (ad.add j) = some v)
    (hu : P.underlying ty = some d) (hd : (match d with | .struct _ | .array _ _ => true | _ => false) = true) (hi : (P.info? ty).map (·.size) = some cs.length) :
    (execOp ev o).run P w = .ok (.value (.agg cs.toArray)) w := by
  unfold execOp
  simp only [ho, hx, Sem.run_bind, Sem.run_pure, Result.andThen_ok, run_loadAt_at w ty ad cs d hc hu hd hi]

theorem exec_buildSlice {P : Program} {ev : Operand → Value} {o : Oper} {w : World} (t e : TypeId) (len : Nat) (parts : Array (Nat × Operand)) (ho : o.op = .buildSlice t len parts) (hu : P.underlying t = some (.slice e)) (cells : Array Value)
    (hf : P.builtSlice e len (parts.map fun (i, x) => (i, ev x)).toList = some cells) : (execOp ev o).run P w = .ok (.value (.slice (some ⟨w.heap.size, 0, none⟩) len len)) (w.alloc (.cells cells e)) := by
  have hb : (Instr.buildSlice t len (parts.map fun (i, x) => (i, ev x))).run P w = .ok (.slice (some ⟨w.heap.size, 0, none⟩) len len) (w.alloc (.cells cells e)) := by
    unfold Program.builtSlice at hf
    cases hie : P.info? e with
    | none => simp [hie] at hf
    | some ie =>
      simp only [hie] at hf
      cases hz : ie.zero with
      | none => simp [hz] at hf
      | some z =>
        simp only [hz] at hf
        by_cases hc : len * ie.size > 2 ^ 24 ∨ len * ie.size = 0
        · simp [hc] at hf
        · rw [if_neg hc] at hf
          exact run_buildSlice w t e len _ cells ie z hu hie hz (fun h' => hc (Or.inl h')) (fun h' => hc (Or.inr h')) hf
  unfold execOp
  simp only [ho, Sem.run_bind, Sem.run_pure, Result.andThen_ok, hb]

theorem RdS.take_ {w : World} {B size n c : Nat} {A : Option Addr} {xs : List Value} (h : RdS w B size A n c xs) (k : Nat) (hk : k ≤ n) : RdS w B size A k c (xs.take (k * size)) := by
  have hlen := h.len
  have hm : k * size ≤ n * size := Nat.mul_le_mul_right _ hk
  refine ⟨by rw [List.length_take]; omega, fun e => ?_, Nat.le_trans hk h.le, fun a ha h0 => h.low a ha (by omega), fun a ha j u hu => ?_⟩
  · have := h.none_ e
    omega
  · rw [List.getElem?_take] at hu
    split at hu
    · exact h.cell a ha j u hu
    · cases hu

section
variable {P : Program} {ops : Array Oper} {rest : List Oper} {o o' : Oper} {a : Act} {w : World} {Q : Exit → Act → World → Prop} {S : Nat → Prop}
/-- A struct taken out of where it lies. -/
theorem wl_load_at (d : Option Tmp) (hd : o.dst = d) (hw : Region.wanted o (yielded ops a.tmps) = true) (ty : TypeId) (x : Operand) (ho : o.op = .load ty x) (ad : Addr) (hx : a.eval x = .pointer (some ad)) (cs : List Value) (td : TypeDesc)
    (hc : ∀ j v, cs[j]? = some v → w.cell? (ad.add j) = some v)
    (hu : P.underlying ty = some td) (hs : (match td with | .struct _ | .array _ _ => true | _ => false) = true) (hi : (P.info? ty).map (·.size) = some cs.length)
    (h : wpList P ops Q rest (a.put d (.agg cs.toArray)) w) : wpList P ops Q (o :: rest) a w := wl_read d hd hw (load_at_run ty x ho ad hx cs td hc hu hs hi) h
theorem yr_load_at (h : Region.wanted o (yielded ops a.tmps) = true) (ty : TypeId) (x : Operand) (ho : o.op = .load ty x) (ad : Addr) (hx : a.eval x = .pointer (some ad)) (cs : List Value) (td : TypeDesc)
    (hc : ∀ w', Kept S w w' → ∀ j v, cs[j]? = some v → w'.cell? (ad.add j) = some v)
    (hu : P.underlying ty = some td) (hs : (match td with | .struct _ | .array _ _ => true | _ => false) = true) (hi : (P.info? ty).map (·.size) = some cs.length) :
    YieldsR P ops S o (.agg cs.toArray) a w := yr_run h fun w' hw => load_at_run ty x ho ad hx cs td (hc w' hw) hu hs hi
/-- A slice literal. -/
theorem wl_buildSlice (d : Option Tmp) (hd : o.dst = d) (hw : Region.wanted o (yielded ops a.tmps) = true) (t e : TypeId) (len : Nat) (parts : Array (Nat × Operand)) (ho : o.op = .buildSlice t len parts) (hu : P.underlying t = some (.slice e)) (cells : Array Value)
    (hf : P.builtSlice e len (parts.map fun (i, x) => (i, a.eval x)).toList = some cells)
    (h : wpList P ops Q rest (a.put d (.slice (some ⟨w.heap.size, 0, none⟩) len len)) (w.alloc (.cells cells e))) : wpList P ops Q (o :: rest) a w :=
  wl_run d hd hw (exec_buildSlice t e len parts ho hu cells hf) h
/-- A new variable, and what is stored into it at once. -/
theorem wl_new (p : Tmp) (hd : o.dst = some p) (hg : o.guard = none) (hg' : o'.guard = none) (ty : TypeId) (y : Operand) (ho' : o'.op = .store ty (.tmp p) y) (hd' : o'.dst = none) (zc : Array Value)
    (hal : (execOp a.eval o).run P w = .ok (.value (.pointer (some ⟨w.heap.size, 0, none⟩))) (w.alloc (.cells zc ty)))
    (cs : Array Value) (hp : p < a.tmps.size) (hy : (a.put (some p) (.pointer (some ⟨w.heap.size, 0, none⟩))).eval y = .agg cs)
    (hi : (P.info? ty).map (·.size) = some cs.size) (hsz : zc.size = cs.size) (h1 : cs.all (·.oneCell') = true)
    (h : wpList P ops Q rest (a.put (some p) (.pointer (some ⟨w.heap.size, 0, none⟩))) (w.alloc (.cells cs ty))) : wpList P ops Q (o :: o' :: rest) a w := by
  refine Great.wpList_allocTo hg (some p) hd _ (.cells zc ty) hal ?_
  refine wpList_store_row hg' ty (.tmp p) y ho' w.heap.size cs ?_ hy ty zc (heap_alloc_last _ _) hi hsz h1 ?_
  · simp [Act.put, Act.eval, Array.getD, hp]
  · rw [World.setRow_alloc_new, hd']
    exact h
end
end Go.Proofs.YtinhenmafjoaoaaGreatDoor

/- A row of the call's own that grows: what stands of it, and an append onto it. -/
namespace Go.Proofs.YtinhenmafjoaoaaGreatDoor
open Go.RowKit

/-- v is a row of n elements of type e, of the call's own from block B on; nothing that was there in w has turned. -/
structure Ow (w : World) (B : Nat) (e : TypeId) (size : Nat) (v : Value) (n : Nat) (xs : List Value) (W : World) : Prop where
  own : W.ownsRow B e size v n xs
  below : Below w.heap.size w W
  lo : w.heap.size ≤ B
  hi : B ≤ W.heap.size

section
variable {w W W' : World} {B size n : Nat} {e : TypeId} {v : Value} {xs : List Value}
theorem own_up {x y : World} {B n : Nat} {e : TypeId} {size : Nat} {v : Value} {xs : List Value} (h : x.ownsRow B e size v n xs) (hx : Below x.heap.size x y) : y.ownsRow B e size v n xs :=
  h.kept (row := none) ⟨hx.os, hx.tape, hx.output, hx.size, fun i hi _ => hx.block i hi⟩ (by cases hv : v.ownBlock <;> simp)
theorem Ow.up (h : Ow w B e size v n xs W) (hb : Below W.heap.size W W') : Ow w B e size v n xs W' :=
  ⟨own_up h.own hb, h.below.trans (hb.mono h.below.size), h.lo, Nat.le_trans h.hi hb.size⟩
theorem Ow.rds (h : Ow w B e size v n xs W) : ∃ A c, v = .slice A n c ∧ RdS W W.heap.size size A n c xs := RdS.of_own h.own
theorem Ow.new_ {W : World} {cs : Array Value} (hw : Below w.heap.size w W) (hl : w.heap.size ≤ B) (hh : B ≤ W.heap.size) (hn : n ≤ maxLen) (hs : cs.size = n * size) : Ow w B e size (.slice (some ⟨W.heap.size, 0, none⟩) n n) n cs.toList (W.alloc (.cells cs e)) :=
  ⟨own_new rfl hh hn hs rfl, hw.alloc hw.size _, hl, by simp; omega⟩
theorem Ow.nil_ {W : World} (hw : Below w.heap.size w W) (hl : w.heap.size ≤ B) (hh : B ≤ W.heap.size) : Ow w B e size (.slice none 0 0) 0 [] W :=
  ⟨World.ownsRow_nil W B e size, hw, hl, hh⟩
end

theorem wpList_push {P : Program} {w W : World} {ops : Array Oper} {rest : List Oper} {o : Oper} {a : Act} {Q : Exit → Act → World → Prop} (hgd : o.guard = none) (s x : Operand) (t : TypeId)
    (ho : o.op = .call { callee := .builtin .append, args := #[s, x], argTypes := #[t, t] })
    (B : Nat) (e : TypeId) (i : TypeInfo) (z : Value) (size bytes : Nat) (ht : P.underlying t = some (.slice e)) (hi : P.info? e = some i) (hz : i.zero = some z)
    (hsize : i.size = size) (hby : i.bytes = bytes) (hzs : z.cells.size = size) (hsz : 0 < size)
    (v : Value) (n : Nat) (xs : List Value) (hs : a.eval s = v) (how : Ow w B e size v n xs W)
    (BB : Nat) (A : Option Addr) (m c : Nat) (news : List Value) (hx : a.eval x = .slice A m c) (hr : RdS W BB size A m c news) (h1 : ∀ u ∈ news, u.oneCell' = true)
    (h63 : n + m ≤ maxLen) (hbytes : (n + m) * bytes ≤ 140737488355328)
    (h : ∀ v' W', Ow w B e size v' (n + m) (xs ++ news) W' → Below B W W' → wpList P ops Q rest (a.put o.dst v') W') :
    wpList P ops Q (o :: rest) a W := by
  refine wpList_append_rds hgd s x t ho B e i z size bytes ht hi hz hsize hby hzs hsz v n xs hs how.own BB A m c news hx hr h1 h63 hbytes how.hi fun v' w' hown hg _ => ?_
  have hk : ∀ k, v.ownBlock = some k → B ≤ k := fun k hk => (how.own.lt k hk).1
  exact h v' w' ⟨hown, how.below.grown hg how.below.size (fun k e => Nat.le_trans how.lo (hk k e)), how.lo, Nat.le_trans how.hi hg.size⟩ ((Below.refl B W).grown hg how.hi hk)

/-- An append onto a piece that has no room: new memory. -/
theorem run_append_full {P : Program} (w : World) (t ty e : TypeId) (i : TypeInfo) (z : Value) (size bytes : Nat) (ht : P.underlying t = some (.slice e)) (hi : P.info? e = some i) (hz : i.zero = some z)
    (hsize : i.size = size) (hby : i.bytes = bytes) (hzs : z.cells.size = size) (hsz : 0 < size)
    (B B' : Nat) (A A' : Option Addr) (n m c : Nat) (olds news : List Value) (ho : RdS w B size A n n olds) (hn : RdS w B' size A' m c news) (hm : 0 < m) (h0 : 0 < n)
    (h63 : n + m ≤ maxLen) (hbytes : (n + m) * bytes ≤ 140737488355328) :
    ∃ cap w', (Builtin.append_ #[t, t] ty #[.slice A n n, .slice A' m c]).run P w = .ok (.slice (some ⟨w.heap.size, 0, none⟩) (n + m) cap) w' ∧
      w'.ownsRow w.heap.size e size (.slice (some ⟨w.heap.size, 0, none⟩) (n + m) cap) (n + m) (olds ++ news) ∧ Below w.heap.size w w' := by
  subst hsize
  subst hby
  have hsmall : n + m ≤ 9223372036854775807 := by simp only [maxLen] at h63; omega
  cases A with
  | none => have := (ho.none_ rfl).1; omega
  | some b =>
    cases A' with
    | none => have := (hn.none_ rfl).1; omega
    | some a =>
      have hr := run_append_grow (P := P) w t ty e i z ht hi hz b n n olds ho.len (fun j u hj => ho.cell b rfl j u hj) a m c news hn.len (fun j u hj => hn.cell a rfl j u hj) (by omega) (by omega) (growslice_fits (by omega) hbytes)
      have hlen : (olds ++ news).length = (n + m) * i.size := by rw [List.length_append, ho.len, hn.len, Nat.add_mul]
      have hge := grownCap_ge w (n + m) n e
      have hcm : grownCap w (n + m) n e ≤ maxLen := grownCap_le_maxLen w (n + m) n e h63
      refine ⟨_, _, hr, ⟨hlen, .inr ⟨w.heap.size, _, _, rfl, Nat.le_refl _, heap_alloc_new w.drew _, hge, hcm, ?_, ?_⟩⟩, ((Below.refl _ _).drew).alloc (Nat.le_refl _) _⟩
      · simp only [Array.size_append, List.size_toArray, size_zeroCells, hzs, ho.len, hn.len, ← Nat.add_mul]
        congr 1
        omega
      · simp only [Array.toList_append, List.append_assoc]
        rw [← List.append_assoc, ← hlen]
        exact List.take_left

/-- An append of nothing. -/
theorem run_append_none {P : Program} (w : World) (t ty e : TypeId) (i : TypeInfo) (ht : P.underlying t = some (.slice e)) (hi : P.info? e = some i) (A A' : Option Addr) (n c c' : Nat) (hnc : n ≤ c) :
    (Builtin.append_ #[t, t] ty #[.slice A n c, .slice A' 0 c']).run P w = .ok (.slice A n c) w := by
  cases A' <;> cases A <;> simp [Builtin.append_, run_underlying ht, sizeOf, typeInfo, hi, Builtin.lenOf, hnc, Builtin.firstCells, storeCells, loadCells, loadCellsFrom]
end Go.Proofs.YtinhenmafjoaoaaGreatDoor

/- An append as an equation, onto a row of the call's own. -/
namespace Go.Proofs.YtinhenmafjoaoaaGreatDoor
open Go.RowKit

theorem Ow.app {P : Program} {w W : World} (t ty e : TypeId) (i : TypeInfo) (z : Value) (size bytes B : Nat) (ht : P.underlying t = some (.slice e)) (hi : P.info? e = some i) (hz : i.zero = some z)
    (hsize : i.size = size) (hby : i.bytes = bytes) (hzs : z.cells.size = size) (hsz : 0 < size)
    (v : Value) (n : Nat) (xs : List Value) (how : Ow w B e size v n xs W)
    (BB : Nat) (A : Option Addr) (m c : Nat) (news : List Value) (hr : RdS W BB size A m c news) (h1 : ∀ u ∈ news, u.oneCell' = true)
    (h63 : n + m ≤ maxLen) (hbytes : (n + m) * bytes ≤ 140737488355328) :
    ∃ v' W', (Builtin.append_ #[t, t] ty #[v, .slice A m c]).run P W = .ok v' W' ∧ Ow w B e size v' (n + m) (xs ++ news) W' ∧ Below B W W' := by
  cases A with
  | none =>
    obtain ⟨rfl, rfl⟩ := hr.none_ rfl
    have hnil : news = [] := List.eq_nil_of_length_eq_zero (by simpa using hr.len)
    subst hnil
    exact ⟨v, W, run_append_owned_none (P := P) (w := W) B t ty e i size ht hi v n xs how.own, by simpa using how, Below.refl _ _⟩
  | some ad =>
    obtain ⟨v', w', hrun, hown, hg, _, _⟩ := run_append_own_at (P := P) W B t ty e i z size bytes ht hi hz hsize hby hzs hsz v n xs how.own ad m c news hr.len (hr.cell ad rfl) h1 h63 hbytes how.hi
    have hk : ∀ k, v.ownBlock = some k → B ≤ k := fun k hk => (how.own.lt k hk).1
    exact ⟨v', w', hrun, ⟨hown, how.below.grown hg how.below.size (fun k e => Nat.le_trans how.lo (hk k e)), how.lo, Nat.le_trans how.hi hg.size⟩, (Below.refl B W).grown hg how.hi hk⟩

/-- What may turn: blocks from B on. -/
def From_ (B : Nat) (i : Nat) : Prop := B ≤ i
theorem Kept.of_from {B : Nat} {a b : World} (h : Below B a b) : Kept (From_ B) a b := ⟨h.os, h.tape, h.output, h.size, fun i _ hn => h.block i (by unfold From_ at hn; omega)⟩
theorem Kept.from_cell {B : Nat} {w w' : World} (h : Kept (From_ B) w w') {p : Addr} {v : Value} (hp : p.block < B) (hc : w.cell? p = some v) : w'.cell? p = some v :=
  h.cell hc (fun e => by unfold From_ at e; omega)
end Go.Proofs.YtinhenmafjoaoaaGreatDoor

/- A growing row that began as an empty one from before: told either way. -/
namespace Go.Proofs.YtinhenmafjoaoaaGreatDoor
open Go.RowKit

theorem ownsRow_lo {w : World} {B B' n : Nat} {e : TypeId} {size : Nat} {v : Value} {xs : List Value} (h : w.ownsRow B e size v n xs) (hB : B' ≤ B) : w.ownsRow B' e size v n xs := by
  refine ⟨h.1, ?_⟩
  rcases h.2 with h | ⟨g, cap, cur, h1, h2, h3⟩
  · exact .inl h
  · exact .inr ⟨g, cap, cur, h1, Nat.le_trans hB h2, h3⟩

theorem wpList_app {P : Program} {w w' : World} {ops : Array Oper} {rest : List Oper} {o : Oper} {a : Act} {Q : Exit → Act → World → Prop} (hgd : o.guard = none) (s x : Operand) (t : TypeId)
    (ho : o.op = .call { callee := .builtin .append, args := #[s, x], argTypes := #[t, t] }) {v u v' : Value} (hs : a.eval s = v) (hx : a.eval x = u)
    (hrun : (Builtin.append_ #[t, t] o.type #[v, u]).run P w = .ok v' w') (h : wpList P ops Q rest (a.put o.dst v') w') : wpList P ops Q (o :: rest) a w := by
  refine wpList_plain hgd fun K hK => ?_
  unfold Oper.wp
  simp [execOp, ho, resolve, invoke, builtin, hs, hx, hrun, Result.andThen]
  exact hK _ _ h

/-- v is as yet the empty row at g0, or a row of the call's own. -/
def Gr (w : World) (g0 : Nat) (e : TypeId) (size : Nat) (v : Value) (n : Nat) (xs : List Value) (W : World) : Prop :=
  (n = 0 ∧ xs = [] ∧ v = .slice (some ⟨g0, 0, none⟩) 0 0 ∧ Below w.heap.size w W) ∨ Ow w w.heap.size e size v n xs W
theorem Gr.below {w W : World} {g0 size n : Nat} {e : TypeId} {v : Value} {xs : List Value} (h : Gr w g0 e size v n xs W) : Below w.heap.size w W := by
  rcases h with ⟨_, _, _, h⟩ | h
  · exact h
  · exact h.below
theorem Gr.up {w W W' : World} {g0 size n : Nat} {e : TypeId} {v : Value} {xs : List Value} (h : Gr w g0 e size v n xs W) (hb : Below W.heap.size W W') : Gr w g0 e size v n xs W' := by
  rcases h with ⟨h1, h2, h3, h⟩ | h
  · exact .inl ⟨h1, h2, h3, h.trans (hb.mono h.size)⟩
  · exact .inr (h.up hb)
theorem Gr.rds {w W : World} {g0 size n : Nat} {e : TypeId} {v : Value} {xs : List Value} (h : Gr w g0 e size v n xs W) : ∃ A c, v = .slice A n c ∧ RdS W W.heap.size size A n c xs := by
  rcases h with ⟨rfl, rfl, rfl, h⟩ | h
  · exact ⟨_, _, rfl, ⟨by simp, fun e => (by cases e), Nat.le_refl _, fun _ _ h => absurd h (by omega), fun _ _ j u hj => by simp at hj⟩⟩
  · exact h.rds
theorem Gr.app {P : Program} {w W : World} (t ty e : TypeId) (i : TypeInfo) (z : Value) (size bytes g0 : Nat) (ht : P.underlying t = some (.slice e)) (hi : P.info? e = some i) (hz : i.zero = some z)
    (hsize : i.size = size) (hby : i.bytes = bytes) (hzs : z.cells.size = size) (hsz : 0 < size)
    (v : Value) (n : Nat) (xs : List Value) (how : Gr w g0 e size v n xs W)
    (BB : Nat) (A : Option Addr) (m c : Nat) (news : List Value) (hr : RdS W BB size A m c news) (h1 : ∀ u ∈ news, u.oneCell' = true) (hm : 0 < m)
    (h63 : n + m ≤ maxLen) (hbytes : (n + m) * bytes ≤ 140737488355328) :
    ∃ v' W', (Builtin.append_ #[t, t] ty #[v, .slice A m c]).run P W = .ok v' W' ∧ Gr w g0 e size v' (n + m) (xs ++ news) W' ∧ Below w.heap.size W W' := by
  rcases how with ⟨rfl, rfl, rfl, hb⟩ | how
  · subst hsize
    subst hby
    have hsmall : 0 + m ≤ 9223372036854775807 := by simp only [maxLen] at h63; omega
    cases A with
    | none => have := (hr.none_ rfl).1; omega
    | some a =>
      have hrun := run_append_grow (P := P) W t ty e i z ht hi hz ⟨g0, 0, none⟩ 0 0 [] (by simp) (fun j u hj => by simp at hj) a m c news hr.len (fun j u hj => hr.cell a rfl j u hj) (by omega) (by omega) (growslice_fits (by omega) hbytes)
      have hlen : ([] ++ news).length = (0 + m) * i.size := by rw [List.nil_append, hr.len, Nat.zero_add]
      have hge := grownCap_ge W (0 + m) 0 e
      have hcm : grownCap W (0 + m) 0 e ≤ maxLen := grownCap_le_maxLen W (0 + m) 0 e h63
      obtain ⟨G, gG⟩ : ∃ G, grownCap W (0 + m) 0 e = G := ⟨_, rfl⟩
      rw [gG] at hrun hge hcm
      have hb1 : Below W.heap.size W (W.drew.alloc (.cells (#[] ++ news.toArray ++ Builtin.zeroCells z.cells (G - (0 + m))) e)) := ((Below.refl _ _).drew).alloc (Nat.le_refl _) _
      refine ⟨_, _, hrun, .inr ⟨⟨hlen, .inr ⟨W.heap.size, _, _, rfl, hb.size, heap_alloc_new W.drew _, hge, hcm, ?_, ?_⟩⟩, hb.trans (hb1.mono hb.size), Nat.le_refl _, Nat.le_trans hb.size hb1.size⟩, hb1.mono hb.size⟩
      · simp only [Array.size_append, List.size_toArray, size_zeroCells, hzs, hr.len, List.length_nil, Nat.zero_add, ← Nat.add_mul]
        congr 1
        omega
      · simp only [Array.toList_append, List.append_assoc]
        rw [← List.append_assoc, ← hlen]
        exact List.take_left
  · obtain ⟨v', W', h1, h2, h3⟩ := Ow.app (P := P) t ty e i z size bytes w.heap.size ht hi hz hsize hby hzs hsz v n xs how BB A m c news hr h1 h63 hbytes
    exact ⟨v', W', h1, .inr h2, h3⟩

/-- A write to another block. -/
theorem RdS.far {w : World} {size n c : Nat} {A : Option Addr} {xs : List Value} (h : RdS w w.heap.size size A n c xs) {p : Addr} (hp : 0 < n → ∀ a, A = some a → a.block ≠ p.block) (u : Value) : RdS (w.setCell p u) (w.setCell p u).heap.size size A n c xs := by
  have hs : (w.setCell p u).heap.size = w.heap.size := by simp [World.setCell]
  refine ⟨h.len, h.none_, h.le, fun a e hn => by rw [hs]; exact h.low a e hn, fun a e j v hj => ?_⟩
  have hn : 0 < n := by
    rcases Nat.eq_zero_or_pos n with h0 | h0
    · subst h0
      have := h.len
      rw [Nat.zero_mul] at this
      rw [List.eq_nil_of_length_eq_zero this] at hj
      simp at hj
    · exact h0
  rw [← h.cell a e j v hj]
  refine World.cell?_of_block (Below.heap_setCell w p u _ ?_)
  rw [add_block]
  exact hp hn a e
end Go.Proofs.YtinhenmafjoaoaaGreatDoor

/- An append onto a row of the call's own, and what it leaves of other blocks. -/
namespace Go.Proofs.YtinhenmafjoaoaaGreatDoor
open Go.RowKit

theorem Whole.grown {W W' : World} {g : Nat} {t : TypeId} {cs : List Value} {r : Option Nat} (h : Whole W g t cs) (hg : W.grownBy W' r) (hne : some g ≠ r) : Whole W' g t cs :=
  h.at_ (hg.block g h.lt hne)
/-- A block that was made behind a row is not the row's. -/
theorem Ow.ne_ {w W : World} {B size n g : Nat} {e : TypeId} {v : Value} {xs : List Value} (h : Ow w B e size v n xs W) (hg : W.heap.size ≤ g) : some g ≠ v.ownBlock := fun e => by
  have := (h.own.lt g e.symm).2
  omega

theorem wpList_push2 {P : Program} {w W : World} {ops : Array Oper} {rest : List Oper} {o : Oper} {a : Act} {Q : Exit → Act → World → Prop} (hgd : o.guard = none) (s x : Operand) (t : TypeId)
    (ho : o.op = .call { callee := .builtin .append, args := #[s, x], argTypes := #[t, t] })
    (B : Nat) (e : TypeId) (i : TypeInfo) (z : Value) (size bytes : Nat) (ht : P.underlying t = some (.slice e)) (hi : P.info? e = some i) (hz : i.zero = some z)
    (hsize : i.size = size) (hby : i.bytes = bytes) (hzs : z.cells.size = size) (hsz : 0 < size)
    (v : Value) (n : Nat) (xs : List Value) (hs : a.eval s = v) (how : Ow w B e size v n xs W)
    (BB : Nat) (A : Option Addr) (m c : Nat) (news : List Value) (hx : a.eval x = .slice A m c) (hr : RdS W BB size A m c news) (h1 : ∀ u ∈ news, u.oneCell' = true)
    (h63 : n + m ≤ maxLen) (hbytes : (n + m) * bytes ≤ 140737488355328)
    (h : ∀ v' W', Ow w B e size v' (n + m) (xs ++ news) W' → Below B W W' → W.grownBy W' v.ownBlock → wpList P ops Q rest (a.put o.dst v') W') :
    wpList P ops Q (o :: rest) a W := by
  refine wpList_append_rds hgd s x t ho B e i z size bytes ht hi hz hsize hby hzs hsz v n xs hs how.own BB A m c news hx hr h1 h63 hbytes how.hi fun v' w' hown hg _ => ?_
  have hk : ∀ k, v.ownBlock = some k → B ≤ k := fun k hk => (how.own.lt k hk).1
  exact h v' w' ⟨hown, how.below.grown hg how.below.size (fun k e => Nat.le_trans how.lo (hk k e)), how.lo, Nat.le_trans how.hi hg.size⟩ ((Below.refl B W).grown hg how.hi hk) hg
end Go.Proofs.YtinhenmafjoaoaaGreatDoor

/- A drawn region in which more than one operation that turns memory may be next: each way. Rows of the call's own that grow in it, beside variables of its own. -/
namespace Go.Proofs.YtinhenmafjoaoaaGreatDoor
open Go.RowKit

section
variable {P : Program} {ops : Array Oper} {S : Nat → Prop} {Q : Exit → Act → World → Prop} {md : Region.Mode} {fuel : Nat} {listed : Array Bool} {a : Act} {w : World}

/-- Operation i is next. -/
def At_ (P : Program) (md : Region.Mode) (ops : Array Oper) (S : Nat → Prop) (Q : Exit → Act → World → Prop) (fuel : Nat) (listed : Array Bool) (a : Act) (w : World) (i : Nat) : Prop :=
  ∀ w', Ext w w' → wpOp P ops Q i (fun a' w'' => Kept S w' w'' ∧ wpR P md ops S Q fuel (listed.setIfInBounds i true) a' w'') a w'
theorem wpR_two (i j : Nat) (hr : Region.ready md ops listed = [i, j]) (h1 : At_ P md ops S Q fuel listed a w i) (h2 : At_ P md ops S Q fuel listed a w j) : wpR P md ops S Q (fuel + 1) listed a w := by
  refine ⟨fun h0 => (by rw [h0] at hr; cases hr), fun w1 hw1 k hk => ?_⟩
  rw [hr] at hk
  rcases List.mem_cons.1 hk with rfl | hk
  · exact h1 w1 hw1
  · obtain rfl := List.mem_singleton.1 hk
    exact h2 w1 hw1
theorem wpR_one (i : Nat) (hr : Region.ready md ops listed = [i]) (h1 : At_ P md ops S Q fuel listed a w i) : wpR P md ops S Q (fuel + 1) listed a w := by
  refine ⟨fun h0 => (by rw [h0] at hr; cases hr), fun w1 hw1 k hk => ?_⟩
  rw [hr] at hk
  obtain rfl := List.mem_singleton.1 hk
  exact h1 w1 hw1
/-- An operation that answers and may turn the world. -/
theorem at_run (i : Nat) (d : Option Tmp) {oi : Oper} (hi : ops[i]? = some oi) (hd : oi.dst = d) (hw : Region.wanted oi (yielded ops a.tmps) = true)
    (h : ∀ w', Ext w w' → ∃ v w'', (execOp a.eval oi).run P w' = .ok (.value v) w'' ∧ Kept S w' w'' ∧ wpR P md ops S Q fuel (listed.setIfInBounds i true) (a.put d v) w'') : At_ P md ops S Q fuel listed a w i := by
  subst hd
  intro w' hx
  obtain ⟨v, w'', h1, h2, h3⟩ := h w' hx
  unfold Go.wpOp
  simp only [hi, hw, if_true]
  refine .inl ?_
  unfold Oper.wp
  rw [h1]
  exact ⟨h2, h3⟩
/-- A store. -/
theorem at_store (i : Nat) {oi : Oper} (hi : ops[i]? = some oi) (hd : oi.dst = none) (hw : Region.wanted oi (yielded ops a.tmps) = true)
    (h : ∀ w', Ext w w' → ∃ w'', (execOp a.eval oi).run P w' = .ok .skip w'' ∧ Kept S w' w'' ∧ wpR P md ops S Q fuel (listed.setIfInBounds i true) a w'') : At_ P md ops S Q fuel listed a w i := by
  intro w' hx
  obtain ⟨w'', h1, h2, h3⟩ := h w' hx
  unfold Go.wpOp
  simp only [hi, hw, if_true]
  refine .inl ?_
  unfold Oper.wp
  rw [h1]
  refine ⟨h2, ?_⟩
  rw [hd]
  exact h3
/-- A call. -/
theorem at_call (i : Nat) (d : Option Tmp) {oi : Oper} {f : FuncId} {args : Array Value} (hi : ops[i]? = some oi) (hd : oi.dst = d) (hw : Region.wanted oi (yielded ops a.tmps) = true)
    (he : ∀ w', (execOp a.eval oi).run P w' = .ok (.enter f args) w')
    (h : ∀ w', Ext w w' → Calls P f args w' fun e w'' => ∃ v, e = .returned v ∧ Kept S w' w'' ∧ wpR P md ops S Q fuel (listed.setIfInBounds i true) (a.put d v) w'') : At_ P md ops S Q fuel listed a w i := by
  subst hd
  intro w1 hw1
  unfold Go.wpOp
  simp only [hi, hw, if_true]
  refine .inl ?_
  unfold Oper.wp
  rw [he w1]
  refine Calls.mono (h w1 hw1) fun e w'' hx => ?_
  obtain ⟨v, rfl, hk, hn⟩ := hx
  exact ⟨hk, hn⟩
end

/-- What stands behind a piece of code, said once for all ways through it. -/
theorem wp_behind {P : Program} {c : Code} {K : Act → World → Prop} {Q' : Exit → Act → World → Prop} {a : Act} {w : World} (Φ : Act → World → Prop)
    (h : c.wp P (fun e a' w' => e = .normal ∧ Φ a' w') a w) (hk : ∀ a' w', Φ a' w' → K a' w') : c.wp P (Exit.then K Q') a w := by
  refine wp_mono h fun e a' w' ⟨he, hp⟩ => ?_
  subst he
  exact hk _ _ hp

theorem wp_behind2 {P : Program} {c : Code} {K : Act → World → Prop} {Q' : Exit → Act → World → Prop} {a : Act} {w : World} (Φ : Act → Act → World → Prop)
    (h : c.wp P (fun e a' w' => e = .normal ∧ Φ a a' w') a w) (hk : ∀ a' w', Φ a a' w' → K a' w') : c.wp P (Exit.then K Q') a w := wp_behind (Φ a) h hk
theorem RdS.grown {W W' : World} {size n c : Nat} {A : Option Addr} {xs : List Value} {r : Option Nat} (h : RdS W W.heap.size size A n c xs) (hg : W.grownBy W' r) (hne : ∀ a, A = some a → 0 < n → some a.block ≠ r) : RdS W' W'.heap.size size A n c xs := by
  refine ⟨h.len, h.none_, h.le, fun a ha hn => Nat.lt_of_lt_of_le (h.low a ha hn) hg.size, fun a ha j u hu => ?_⟩
  rw [← h.cell a ha j u hu]
  refine World.cell?_of_block (hg.block _ ?_ ?_)
  · rw [add_block]; exact h.low a ha (h.pos hu)
  · rw [add_block]; exact hne a ha (h.pos hu)

theorem Ow.app2 {P : Program} {w W : World} (t ty e : TypeId) (i : TypeInfo) (z : Value) (size bytes B : Nat) (ht : P.underlying t = some (.slice e)) (hi : P.info? e = some i) (hz : i.zero = some z)
    (hsize : i.size = size) (hby : i.bytes = bytes) (hzs : z.cells.size = size) (hsz : 0 < size)
    (v : Value) (n : Nat) (xs : List Value) (how : Ow w B e size v n xs W)
    (BB : Nat) (A : Option Addr) (m c : Nat) (news : List Value) (hr : RdS W BB size A m c news) (h1 : ∀ u ∈ news, u.oneCell' = true)
    (h63 : n + m ≤ maxLen) (hbytes : (n + m) * bytes ≤ 140737488355328) :
    ∃ v' W', (Builtin.append_ #[t, t] ty #[v, .slice A m c]).run P W = .ok v' W' ∧ Ow w B e size v' (n + m) (xs ++ news) W' ∧ Below B W W' ∧ W.grownBy W' v.ownBlock ∧ (v'.ownBlock = v.ownBlock ∨ v'.ownBlock = some W.heap.size) := by
  cases A with
  | none =>
    obtain ⟨rfl, rfl⟩ := hr.none_ rfl
    have hnil : news = [] := List.eq_nil_of_length_eq_zero (by simpa using hr.len)
    subst hnil
    exact ⟨v, W, run_append_owned_none (P := P) (w := W) B t ty e i size ht hi v n xs how.own, by simpa using how, Below.refl _ _, World.grownBy.refl W _, .inl rfl⟩
  | some ad =>
    obtain ⟨v', w', hrun, hown, hg, _, ho⟩ := run_append_own_at (P := P) W B t ty e i z size bytes ht hi hz hsize hby hzs hsz v n xs how.own ad m c news hr.len (hr.cell ad rfl) h1 h63 hbytes how.hi
    have hk : ∀ k, v.ownBlock = some k → B ≤ k := fun k hk => (how.own.lt k hk).1
    exact ⟨v', w', hrun, ⟨hown, how.below.grown hg how.below.size (fun k e => Nat.le_trans how.lo (hk k e)), how.lo, Nat.le_trans how.hi hg.size⟩, (Below.refl B W).grown hg how.hi hk, hg, ho⟩
theorem Ow.ne2 {v v' : Value} {W : World} {g : Nat} (h : some g ≠ v.ownBlock) (hg : g < W.heap.size) (ho : v'.ownBlock = v.ownBlock ∨ v'.ownBlock = some W.heap.size) : some g ≠ v'.ownBlock := by
  rcases ho with ho | ho
  · rw [ho]; exact h
  · rw [ho]
    intro e
    have := Option.some.inj e
    omega
/-- Behind a store to another block a row of the call's own reads as it did. -/
theorem Ow.rds_far {w W : World} {B size n g i : Nat} {e : TypeId} {v : Value} {xs : List Value} (h : Ow w B e size v n xs W) (hne : some g ≠ v.ownBlock) (u : Value) :
    ∃ A c, v = .slice A n c ∧ RdS (W.setCell ⟨g, i, none⟩ u) (W.setCell ⟨g, i, none⟩ u).heap.size size A n c xs := by
  obtain ⟨A, c, rfl, hr⟩ := h.rds
  refine ⟨A, c, rfl, hr.far (p := ⟨g, i, none⟩) (fun hn a ha hb => hne ?_) u⟩
  subst ha
  have hb' : a.block = g := hb
  show some g = some a.block
  rw [hb']
end Go.Proofs.YtinhenmafjoaoaaGreatDoor

/- A struct stored whole into a block; what stands then. -/
namespace Go.Proofs.YtinhenmafjoaoaaGreatDoor
open Go.RowKit

theorem store_row_run {P : Program} {ev : Operand → Value} {o : Oper} {w : World} (ty : TypeId) (x y : Operand) (ho : o.op = .store ty x y) (g : Nat) (hx : ev x = .pointer (some ⟨g, 0, none⟩))
    (cs' : List Value) (hy : ev y = .agg cs'.toArray) (t : TypeId) (cs : List Value) (hg : Whole w g t cs) (hi : (P.info? ty).map (·.size) = some cs'.length) (hl : cs.length = cs'.length) (h1 : cs'.all (·.oneCell') = true) :
    (execOp ev o).run P w = .ok .skip (w.setRow g cs'.toArray) := by
  have h := run_storeVar_row (P := P) w g t ty cs.toArray cs'.toArray hg (by simpa using hi) (by simpa using hl) (by simpa using h1)
  unfold execOp
  simp only [ho, hx, hy, Instr.storeAt, Instr.sureAddr, Sem.run_bind, Sem.run_pure, Result.andThen_ok, h]
theorem Whole.row {w : World} {g : Nat} {t : TypeId} {cs : List Value} (h : Whole w g t cs) (cs' : List Value) : Whole (w.setRow g cs'.toArray) g t cs' := setRow_heap w g _ _ _ _ h
theorem Whole.row_far {w : World} {g g' : Nat} {t : TypeId} {cs : List Value} (h : Whole w g t cs) (hne : g ≠ g') (cs' : Array Value) : Whole (w.setRow g' cs') g t cs := (setRow_other w g' g cs' hne).trans h
theorem setRow_size (w : World) (g : Nat) (cs : Array Value) : (w.setRow g cs).heap.size = w.heap.size := by simp [World.setRow]
theorem kept_row {S : Nat → Prop} {w : World} {g : Nat} (hS : S g) (cs : Array Value) : Kept S w (w.setRow g cs) := ⟨rfl, rfl, rfl, by simp [World.setRow], fun i _ hn => setRow_other w g i cs (fun e => hn (e ▸ hS))⟩
theorem below_row {B : Nat} {a w : World} {g : Nat} (h : Below B a w) (hg : B ≤ g) (cs : Array Value) : Below B a (w.setRow g cs) :=
  ⟨h.os, h.tape, h.output, (by have := h.size; simpa [World.setRow] using this), fun i hi => (setRow_other w g i _ (by omega)).trans (h.block i hi)⟩
/-- A write to a whole other block. -/
theorem RdS.row_far {w : World} {size n c g : Nat} {A : Option Addr} {xs : List Value} (h : RdS w w.heap.size size A n c xs) (hp : ∀ a, A = some a → 0 < n → some a.block ≠ some g) (cs : Array Value) : RdS (w.setRow g cs) (w.setRow g cs).heap.size size A n c xs := by
  refine ⟨h.len, h.none_, h.le, fun a e hn => by rw [setRow_size]; exact h.low a e hn, fun a e j v hj => ?_⟩
  rw [← h.cell a e j v hj]
  refine World.cell?_of_block (setRow_other w g _ cs ?_)
  rw [add_block]
  exact fun e' => hp a e (h.pos hj) (by rw [e'])
theorem Ow.rds_row {w W : World} {B size n g : Nat} {e : TypeId} {v : Value} {xs : List Value} (h : Ow w B e size v n xs W) (hne : some g ≠ v.ownBlock) (cs : Array Value) :
    ∃ A c, v = .slice A n c ∧ RdS (W.setRow g cs) (W.setRow g cs).heap.size size A n c xs := by
  obtain ⟨A, c, rfl, hr⟩ := h.rds
  refine ⟨A, c, rfl, hr.row_far (fun a ha _ hb => hne ?_) cs⟩
  subst ha
  exact hb.symm
theorem RdS.kept_ {S : Nat → Prop} {w w' : World} {B size n c : Nat} {A : Option Addr} {xs : List Value} (h : RdS w B size A n c xs) (hk : Kept S w w') (hB : B ≤ w.heap.size) (hS : ∀ i, i < B → ¬ S i) : RdS w' w'.heap.size size A n c xs :=
  h.up (hk.below hB hS) (Nat.le_trans hB hk.size)
theorem RdS.kept_ne {S : Nat → Prop} {w w' : World} {size n c : Nat} {A : Option Addr} {xs : List Value} (h : RdS w w.heap.size size A n c xs) (hk : Kept S w w') (hne : ∀ a, A = some a → 0 < n → ¬ S a.block) : RdS w' w'.heap.size size A n c xs := by
  refine ⟨h.len, h.none_, h.le, fun a e hn => Nat.lt_of_lt_of_le (h.low a e hn) hk.size, fun a e j v hj => ?_⟩
  have hn := h.pos hj
  exact hk.cell (h.cell a e j v hj) (by rw [add_block]; exact hne a e hn)
end Go.Proofs.YtinhenmafjoaoaaGreatDoor

/- Pieces of slices: the operations s[:k] and s[k:], and what they read as; the elements of a row at a known place. -/
namespace Go.Proofs.YtinhenmafjoaoaaGreatDoor
open Go.RowKit Go.Deep
set_option linter.unusedSimpArgs false

theorem exec_slice_high {P : Program} {ev : Operand → Value} {o : Oper} {w : World} (t e : TypeId) (x hi : Operand) (ho : o.op = .slice t x none (some hi) none) (hu : P.underlying t = some (.slice e)) {s : Nat} (hs : (P.info? e).map (·.size) = some s)
    {A : Option Addr} {n c k : Nat} (hx : ev x = .slice A n c) (hk : ev hi = .int .i64 (k : Int)) (hkc : k ≤ c) : (execOp ev o).run P w = .ok (.value (.slice A k c)) w := by
  cases hq : P.info? e with
  | none => simp [hq] at hs
  | some i =>
    have hi' : i.size = s := by simpa [hq] using hs
    have h1 : (Instr.slice t (.slice A n c) none (some (.int .i64 (k : Int))) none).run P w = .ok (.slice A k c) w := by
      have hb : (Instr.sliceBound (.int .i64 (k : Int)) c .sliceAcap).run P w = .ok (k : Int).toNat w := run_sliceBound _ _ _ _ _ (Int.natCast_nonneg k) (by omega)
      simp only [Instr.slice, Sem.run_bind, run_underlying hu, Result.andThen_ok, Instr.sliceBounds, Sem.run_pure, if_true, hb, sizeOf, typeInfo, hq, Int.toNat_natCast]
      simp [hq, Addr.add]
    unfold execOp
    simp only [ho, Option.map_none, Option.map_some, hx, hk, Sem.run_bind, Sem.run_pure, Result.andThen_ok]
    rw [show (Instr.sliceAt t (.slice A n c) none (some (.int .i64 (k : Int))) none).run P w = (Instr.slice t (.slice A n c) none (some (.int .i64 (k : Int))) none).run P w from by simp [Instr.sliceAt, run_underlying hu], h1]
    rfl

theorem exec_slice_low {P : Program} {ev : Operand → Value} {o : Oper} {w : World} (t e : TypeId) (x lo : Operand) (ho : o.op = .slice t x (some lo) none none) (hu : P.underlying t = some (.slice e)) {s : Nat} (hs : (P.info? e).map (·.size) = some s)
    {A : Option Addr} {n c k : Nat} (hx : ev x = .slice A n c) (hk : ev lo = .int .i64 (k : Int)) (hkn : k ≤ n) : (execOp ev o).run P w = .ok (.value (.slice (if c = k then A else A.map (·.add (k * s))) (n - k) (c - k))) w := by
  cases hq : P.info? e with
  | none => simp [hq] at hs
  | some i =>
    have hi' : i.size = s := by simpa [hq] using hs
    have h1 : (Instr.slice t (.slice A n c) (some (.int .i64 (k : Int))) none none).run P w = .ok (.slice (if c = k then A else A.map (·.add (k * s))) (n - k) (c - k)) w := by
      have hb : (Instr.sliceBound (.int .i64 (k : Int)) n .sliceB).run P w = .ok (k : Int).toNat w := run_sliceBound _ _ _ _ _ (Int.natCast_nonneg k) (by omega)
      simp only [Instr.slice, Sem.run_bind, run_underlying hu, Result.andThen_ok, Instr.sliceBounds, Sem.run_pure, Option.isSome_none, Bool.false_eq_true, if_false, hb, sizeOf, typeInfo, hq, Int.toNat_natCast]
      simp [hq, hi']
    unfold execOp
    simp only [ho, Option.map_none, Option.map_some, hx, hk, Sem.run_bind, Sem.run_pure, Result.andThen_ok]
    rw [show (Instr.sliceAt t (.slice A n c) (some (.int .i64 (k : Int))) none none).run P w = (Instr.slice t (.slice A n c) (some (.int .i64 (k : Int))) none none).run P w from by simp [Instr.sliceAt, run_underlying hu], h1]
    rfl

theorem RdS.low_ {w : World} {B s n c k : Nat} {A : Option Addr} {xs : List Value} (h : RdS w B s A n c xs) (hk : k ≤ n) : RdS w B s (if c = k then A else A.map (·.add (k * s))) (n - k) (c - k) (xs.drop (k * s)) := by
  have hle := h.le
  have hlen := h.len
  refine ⟨by rw [List.length_drop, hlen, Nat.sub_mul], fun e => ?_, by omega, fun a ha hn => ?_, fun a ha j u hu => ?_⟩
  · split at e
    · omega
    · cases hA : A with
      | none => have := h.none_ hA; omega
      | some a => rw [hA] at e; cases e
  · rw [if_neg (by omega)] at ha
    cases hA : A with
    | none => rw [hA] at ha; cases ha
    | some b =>
      rw [hA] at ha
      obtain rfl := Option.some.inj ha
      rw [add_block]
      exact h.low b hA (by omega)
  · have hj : j < (xs.drop (k * s)).length := (List.getElem?_eq_some_iff.1 hu).1
    have hkn : k < n := by
      rcases Nat.lt_or_ge k n with h1 | h1
      · exact h1
      · have : k = n := by omega
        subst this
        rw [List.length_drop, hlen] at hj
        omega
    rw [if_neg (by omega)] at ha
    cases hA : A with
    | none => rw [hA] at ha; cases ha
    | some b =>
      rw [hA] at ha
      obtain rfl := Option.some.inj ha
      rw [add_add]
      rw [List.getElem?_drop] at hu
      exact h.cell b hA _ _ hu

/-- The elements of a row whose place is known. -/
theorem RdS.elem {w : World} {B s n c : Nat} {b off : Nat} {α : Type} {f : α → List Value} {L : List α} (hs : ∀ x, (f x).length = s) (h : RdS w B s (some ⟨b, off, none⟩) n c (rowsV f L)) {k : Nat} {x : α} (hk : L[k]? = some x) :
    ∀ j v, (f x)[j]? = some v → w.cell? (Addr.add ⟨b, off + k * s, none⟩ j) = some v := by
  intro j v hv
  have := h.cell _ rfl _ _ (rowsV_get f hs L k x hk j v hv)
  have e : (⟨b, off, none⟩ : Addr).add (k * s + j) = (⟨b, off + k * s, none⟩ : Addr).add j := by
    simp only [Addr.add_lit, Nat.add_assoc]
  rw [← e]
  exact this
end Go.Proofs.YtinhenmafjoaoaaGreatDoor

/- Pieces of slices: the operation s[i:k]. -/
namespace Go.Proofs.YtinhenmafjoaoaaGreatDoor
open Go.RowKit Go.Deep
set_option linter.unusedSimpArgs false

theorem exec_slice_both {P : Program} {ev : Operand → Value} {o : Oper} {w : World} (t e : TypeId) (x lo hi : Operand) (ho : o.op = .slice t x (some lo) (some hi) none) (hu : P.underlying t = some (.slice e)) {s : Nat} (hs : (P.info? e).map (·.size) = some s)
    {A : Option Addr} {n c i k : Nat} (hx : ev x = .slice A n c) (hl : ev lo = .int .i64 (i : Int)) (hk : ev hi = .int .i64 (k : Int)) (hik : i ≤ k) (hkc : k ≤ c) : (execOp ev o).run P w = .ok (.value (.slice (if c = i then A else A.map (·.add (i * s))) (k - i) (c - i))) w := by
  cases hq : P.info? e with
  | none => simp [hq] at hs
  | some ie =>
    have hi' : ie.size = s := by simpa [hq] using hs
    have h1 : (Instr.slice t (.slice A n c) (some (.int .i64 (i : Int))) (some (.int .i64 (k : Int))) none).run P w = .ok (.slice (if c = i then A else A.map (·.add (i * s))) (k - i) (c - i)) w := by
      have hb : (Instr.sliceBound (.int .i64 (k : Int)) c .sliceAcap).run P w = .ok (k : Int).toNat w := run_sliceBound _ _ _ _ _ (Int.natCast_nonneg k) (by omega)
      have hb2 : (Instr.sliceBound (.int .i64 (i : Int)) k .sliceB).run P w = .ok (i : Int).toNat w := run_sliceBound _ _ _ _ _ (Int.natCast_nonneg i) (by omega)
      simp only [Instr.slice, Sem.run_bind, run_underlying hu, Result.andThen_ok, Instr.sliceBounds, Sem.run_pure, if_true, hb, sizeOf, typeInfo, hq, Int.toNat_natCast]
      simp [hq, hi', hb2]
    unfold execOp
    simp only [ho, Option.map_none, Option.map_some, hx, hk, hl, Sem.run_bind, Sem.run_pure, Result.andThen_ok]
    rw [show (Instr.sliceAt t (.slice A n c) (some (.int .i64 (i : Int))) (some (.int .i64 (k : Int))) none).run P w = (Instr.slice t (.slice A n c) (some (.int .i64 (i : Int))) (some (.int .i64 (k : Int))) none).run P w from by simp [Instr.sliceAt, run_underlying hu], h1]
    rfl
theorem exec_slice_as {P : Program} {ev : Operand → Value} {o : Oper} {w : World} (t e : TypeId) (x lo hi : Operand) (ho : o.op = .slice t x (some lo) (some hi) none) (hu : P.underlying t = some (.slice e)) {s : Nat} (hs : (P.info? e).map (·.size) = some s)
    {A A' : Option Addr} {n c i k m c' : Nat} (hx : ev x = .slice A n c) (hl : ev lo = .int .i64 (i : Int)) (hk : ev hi = .int .i64 (k : Int)) (hik : i ≤ k) (hkc : k ≤ c) (hA : (if c = i then A else A.map (·.add (i * s))) = A') (hm : k - i = m) (hc : c - i = c') : (execOp ev o).run P w = .ok (.value (.slice A' m c')) w := by
  subst hA hm hc
  exact exec_slice_both t e x lo hi ho hu hs hx hl hk hik hkc
theorem exec_slice_low_as {P : Program} {ev : Operand → Value} {o : Oper} {w : World} (t e : TypeId) (x lo : Operand) (ho : o.op = .slice t x (some lo) none none) (hu : P.underlying t = some (.slice e)) {s : Nat} (hs : (P.info? e).map (·.size) = some s)
    {A A' : Option Addr} {n c k m c' : Nat} (hx : ev x = .slice A n c) (hk : ev lo = .int .i64 (k : Int)) (hkn : k ≤ n) (hA : (if c = k then A else A.map (·.add (k * s))) = A') (hm : n - k = m) (hc : c - k = c') : (execOp ev o).run P w = .ok (.value (.slice A' m c')) w := by
  subst hA hm hc
  exact exec_slice_low t e x lo ho hu hs hx hk hkn
end Go.Proofs.YtinhenmafjoaoaaGreatDoor

/- A region that draws its order, whose last operations (ts) come behind all others: those may turn what the others read. -/
namespace Go.Proofs.YtinhenmafjoaoaaGreatDoor
open Go.RowKit

section
variable {P : Program} {ops : Array Oper} {Q : Exit → Act → World → Prop} {md : Region.Mode} {S : Nat → Prop} {ts : List Nat}

/-- Each of ts comes behind i. -/
def tailAll (md : Region.Mode) (ops : Array Oper) (ts : List Nat) (i : Nat) : Bool :=
  ts.all fun t => match ops[t]? with
    | some ot => ot.after.toList.any (fun e => Region.binds md e && e.on == i)
    | none => true
theorem tailAll_spec {i : Nat} (h : tailAll md ops ts i = true) : ∀ j oj, ops[j]? = some oj → j ∈ ts → ∃ e ∈ oj.after, Region.binds md e = true ∧ e.on = i := by
  intro j oj hj hm
  have h1 := List.all_eq_true.1 h j hm
  rw [hj] at h1
  obtain ⟨e, he, h2⟩ := List.any_eq_true.1 h1
  rw [Bool.and_eq_true, beq_iff_eq] at h2
  exact ⟨e, Array.mem_toList_iff.1 he, h2⟩
/-- Whatever order is picked from here on, in this world or in one that it has grown to; behind every operation only what S lets has turned. -/
def wpT (P : Program) (md : Region.Mode) (ops : Array Oper) (S : Nat → Prop) (ts : List Nat) (Q : Exit → Act → World → Prop) : Nat → Array Bool → Act → World → Prop
  | 0, listed, a, w => Region.ready md ops listed = [] ∧ ∀ w', Ext w w' → Q .normal a w'
  | fuel + 1, listed, a, w =>
    (Region.ready md ops listed = [] → ∀ w', Ext w w' → Q .normal a w') ∧
    ∀ w', Ext w w' → ∀ i ∈ Region.ready md ops listed, wpOp P ops Q i (fun a' w'' => (i ∉ ts → Kept S w' w'') ∧ wpT P md ops S ts Q fuel (listed.setIfInBounds i true) a' w'') a w'

theorem wpT.up : ∀ {fuel : Nat} {listed : Array Bool} {a : Act} {w w' : World}, wpT P md ops S ts Q fuel listed a w → Ext w w' → wpT P md ops S ts Q fuel listed a w'
  | 0, _, _, _, _, h, hw => ⟨h.1, fun w'' h' => h.2 w'' (hw.trans h')⟩
  | _ + 1, _, _, _, _, h, hw => ⟨fun h0 w'' h' => h.1 h0 w'' (hw.trans h'), fun w'' h' => h.2 w'' (hw.trans h')⟩

theorem wpAny_of_T : ∀ (fuel : Nat) (listed : Array Bool) (a : Act) (w : World), wpT P md ops S ts Q fuel listed a w → wpAny P md ops Q fuel listed a w
  | 0, _, _, w, h => ⟨h.1, h.2 w (Ext.refl w)⟩
  | fuel + 1, _, _, w, h => ⟨fun h0 => h.1 h0 w (Ext.refl w), fun i hi => wpOp_mono (fun a' w' h' => wpAny_of_T fuel _ a' w' h'.2) (h.2 w (Ext.refl w) i hi)⟩

theorem wpT_first {i : Nat} {oi : Oper} {v : Value} (hi : ops[i]? = some oi) (hsel : ∀ (j : Nat) (o : Oper) cs b, ops[j]? = some o → o.op ≠ .select cs b)
    (hQ : ∀ c a w, Q (.panic c) (a.put oi.dst v) w → Q (.panic c) a w) (hts : ∀ j oj, ops[j]? = some oj → j ∈ ts → ∃ e ∈ oj.after, Region.binds md e = true ∧ e.on = i) :
    ∀ (fuel : Nat) (listed : Array Bool) (a : Act) (w : World),
      (∀ j oj, ops[j]? = some oj → j ≠ i → listed.getD j true = false → (∀ e ∈ oj.after, Region.binds md e = true → e.on ≠ i) → oi.apart ops oj = true) →
      i ∈ Region.ready md ops listed → YieldsR P ops S oi v a w →
      wpT P md ops S ts Q fuel (listed.setIfInBounds i true) (a.put oi.dst v) w → wpT P md ops S ts Q (fuel + 1) listed a w := by
  intro fuel
  induction fuel with
  | zero =>
    intro listed a w _ hr hy H
    refine ⟨fun h => (by rw [h] at hr; cases hr), fun w1 hw1 j hj => ?_⟩
    by_cases hji : j = i
    · subst hji
      exact (hy.up (Kept.of_ext hw1)).wpOp hi fun w2 hw2 => ⟨fun _ => Kept.of_ext hw2, H.up (hw1.trans hw2)⟩
    · have := ready_mono hj hji
      rw [H.1] at this
      cases this
  | succ fuel ih =>
    intro listed a w hfree hr hy H
    refine ⟨fun h => (by rw [h] at hr; cases hr), fun w1 hw1 j hj => ?_⟩
    by_cases hji : j = i
    · subst hji
      exact (hy.up (Kept.of_ext hw1)).wpOp hi fun w2 hw2 => ⟨fun _ => Kept.of_ext hw2, H.up (hw1.trans hw2)⟩
    · have h1 := H.2 w1 hw1 j (ready_mono hj hji)
      obtain ⟨hjun, oj, hoj, hall⟩ := mem_ready.1 hj
      have hnot : ∀ e ∈ oj.after, Region.binds md e = true → e.on ≠ i := fun e he hb heq => by
        have h1 := hall e he hb
        have h0 := (mem_ready.1 hr).1
        rw [heq] at h1
        rcases Nat.lt_or_ge i listed.size with h' | h'
        · simp [h'] at h0 h1
          rw [h0] at h1
          cases h1
        · simp [Array.getElem?_eq_none h'] at h1
      have hjt : j ∉ ts := fun hm => by
        obtain ⟨e, he, hb, heq⟩ := hts j oj hoj hm
        exact hnot e he hb heq
      have h2 := wpOp_swap hoj (hfree j oj hoj hji hjun hnot) (fun cs b => hsel i oi cs b hi) (fun cs b => hsel j oj cs b hoj) hQ h1
      have hfree' : ∀ k ok, ops[k]? = some ok → k ≠ i → (listed.setIfInBounds j true).getD k true = false →
          (∀ e ∈ ok.after, Region.binds md e = true → e.on ≠ i) → oi.apart ops ok = true := fun k ok hk hki hun hno => by
        refine hfree k ok hk hki ?_ hno
        by_cases hjk : j = k
        · subst hjk
          exact hjun
        · rw [getD_set_ne true hjk] at hun
          exact hun
      refine wpOp_mono (fun a' w' h3 => ⟨fun _ => h3.2.1 hjt, ih (listed.setIfInBounds j true) a' w' hfree' (ready_mono hr (Ne.symm hji)) ?_ ?_⟩) h2
      · exact (hy.up ((Kept.of_ext hw1).trans (h3.2.1 hjt))).same h3.1.1 h3.1.2
      · rw [Array.setIfInBounds_comm _ _ hji]
        exact h3.2.2

/-- Take operation number i next, whose value is the same in every later world: 'apply Exists.intro; apply And.intro' behind it. -/
theorem wpT_next (i : Nat) (d : Option Tmp) (ht : tailAll md ops ts i = true) {oi : Oper} {fuel : Nat} {listed : Array Bool} {a : Act} {w : World} (hi : ops[i]? = some oi) (hd : oi.dst = d)
    (hs : Region.noSelect ops = true) (hf : Region.free md ops listed i = true) (hr : (Region.ready md ops listed).contains i = true)
    (hQ : ∀ v c a w, Q (.panic c) (a.put d v) w → Q (.panic c) a w)
    (h : ∃ v, YieldsR P ops S oi v a w ∧ wpT P md ops S ts Q fuel (listed.setIfInBounds i true) (a.put d v) w) : wpT P md ops S ts Q (fuel + 1) listed a w := by
  subst hd
  obtain ⟨v, hy, hk⟩ := h
  exact wpT_first hi (Region.noSelect_spec hs) (hQ v) (tailAll_spec ht) fuel listed a w (Region.free_spec hi hf) (by simpa using hr) hy hk

/-- Take operation number i, the only one that is ready, a call: whatever it does. -/
theorem wpT_call (i : Nat) (d : Option Tmp) {oi : Oper} {fuel : Nat} {listed : Array Bool} {a : Act} {w : World} {f : FuncId} {args : Array Value} (hi : ops[i]? = some oi) (hd : oi.dst = d)
    (hr : Region.ready md ops listed = [i]) (hw : Region.wanted oi (yielded ops a.tmps) = true)
    (he : ∀ w', (execOp a.eval oi).run P w' = .ok (.enter f args) w')
    (h : ∀ w', Ext w w' → Calls P f args w' fun e w'' => ∃ v, e = .returned v ∧ Kept S w' w'' ∧ wpT P md ops S ts Q fuel (listed.setIfInBounds i true) (a.put d v) w'') : wpT P md ops S ts Q (fuel + 1) listed a w := by
  subst hd
  refine ⟨fun h0 => (by rw [h0] at hr; cases hr), fun w1 hw1 j hj => ?_⟩
  rw [hr] at hj
  obtain rfl := List.mem_singleton.1 hj
  unfold Go.wpOp
  simp only [hi, hw, if_true]
  refine .inl ?_
  unfold Oper.wp
  rw [he w1]
  refine Calls.mono (h w1 hw1) fun e w'' hx => ?_
  obtain ⟨v, rfl, hk, hn⟩ := hx
  exact ⟨fun _ => hk, hn⟩

/-- Take operation number i, the only one that is ready, whatever it does: by the laws of operations. -/
theorem wpT_only (i : Nat) {oi : Oper} {fuel : Nat} {listed : Array Bool} {a : Act} {w : World} (hi : ops[i]? = some oi)
    (hr : Region.ready md ops listed = [i]) (hw : Region.wanted oi (yielded ops a.tmps) = true)
    (h : ∀ w', Ext w w' → Oper.wp P oi a w' (fun a' w'' => (i ∉ ts → Kept S w' w'') ∧ wpT P md ops S ts Q fuel (listed.setIfInBounds i true) a' w'') Q) : wpT P md ops S ts Q (fuel + 1) listed a w := by
  refine ⟨fun h0 => (by rw [h0] at hr; cases hr), fun w1 hw1 j hj => ?_⟩
  rw [hr] at hj
  obtain rfl := List.mem_singleton.1 hj
  unfold Go.wpOp
  simp only [hi, hw, if_true]
  exact .inl (h w1 hw1)

/-- Take operation number i, the only one that is ready, no call: it answers and may turn the world. -/
theorem wpT_run (i : Nat) (d : Option Tmp) {oi : Oper} {fuel : Nat} {listed : Array Bool} {a : Act} {w : World} (hi : ops[i]? = some oi) (hd : oi.dst = d)
    (hr : Region.ready md ops listed = [i]) (hw : Region.wanted oi (yielded ops a.tmps) = true)
    (h : ∀ w', Ext w w' → ∃ v w'', (execOp a.eval oi).run P w' = .ok (.value v) w'' ∧ Kept S w' w'' ∧ wpT P md ops S ts Q fuel (listed.setIfInBounds i true) (a.put d v) w'') : wpT P md ops S ts Q (fuel + 1) listed a w := by
  subst hd
  refine wpT_only i hi hr hw fun w' hx => ?_
  obtain ⟨v, w'', h1, h2, h3⟩ := h w' hx
  unfold Oper.wp
  rw [h1]
  exact ⟨fun _ => h2, h3⟩

theorem wpT_done {listed : Array Bool} {a : Act} {w : World} (hr : Region.ready md ops listed = []) (h : ∀ w', Ext w w' → Q .normal a w') : ∀ fuel, wpT P md ops S ts Q fuel listed a w
  | 0 => ⟨hr, h⟩
  | _ + 1 => ⟨fun _ => h, by rw [hr]; simp⟩

/-- The beginning. -/
theorem wp_region_tail (S : Nat → Prop) (ts : List Nat) {id : Nat} {a : Act} {w : World} (hm : P.follows .mixedOrders = true)
    (h : wpT P .any ops S ts Q ops.size (Array.replicate ops.size false) a w.drew) : (Code.region id ops true).wp P Q a w :=
  wp_region_any hm (wpAny_of_T _ _ _ _ h)

/-- Take operation number i of ts, the only one that is ready, a store: whatever it turns. -/
theorem wpT_last (i : Nat) {oi : Oper} {fuel : Nat} {listed : Array Bool} {a : Act} {w : World} (hi : ops[i]? = some oi) (hd : oi.dst = none)
    (hr : Region.ready md ops listed = [i]) (hw : Region.wanted oi (yielded ops a.tmps) = true) (hm : i ∈ ts)
    (h : ∀ w', Ext w w' → ∃ w'', (execOp a.eval oi).run P w' = .ok .skip w'' ∧ wpT P md ops S ts Q fuel (listed.setIfInBounds i true) a w'') : wpT P md ops S ts Q (fuel + 1) listed a w := by
  refine wpT_only i hi hr hw fun w' hx => ?_
  obtain ⟨w'', h1, h3⟩ := h w' hx
  unfold Oper.wp
  rw [h1]
  refine ⟨fun hn => absurd hm hn, ?_⟩
  rw [hd]
  exact h3
end
end Go.Proofs.YtinhenmafjoaoaaGreatDoor

/- A region that draws its order, by an invariant: each operation's value meets a predicate that stays true while memory grows; whatever the order, all meet theirs at the end. -/
namespace Go.Proofs.YtinhenmafjoaoaaGreatDoor
open Go.RowKit

def putAll (x : Nat → Value) : List (Option Tmp) → Nat → Act → Act
  | [], _, a => a
  | d :: ds, k, a => putAll x ds (k + 1) (a.put d (x k))

def upd (x : Nat → Value) (i : Nat) (v : Value) : Nat → Value := fun j => if j = i then v else x j

theorem put_same (a : Act) (d : Option Tmp) (u v : Value) : (a.put d u).put d v = a.put d v := by
  cases d with
  | none => rfl
  | some d => simp [Act.put]

theorem putAll_put (x : Nat → Value) (v : Value) : ∀ (ds : List (Option Tmp)) (k : Nat) (a : Act) (d : Option Tmp), (∀ e ∈ ds, ∀ t, d = some t → e ≠ some t) → (putAll x ds k a).put d v = putAll x ds k (a.put d v)
  | [], _, _, _, _ => rfl
  | e :: ds, k, a, d, h => by
    simp only [putAll]
    rw [putAll_put x v ds (k + 1) _ d (fun e' he' => h e' (List.mem_cons_of_mem _ he'))]
    congr 1
    exact Act.put_comm a (x := e) (y := d) _ _ (fun t he hd => h e (List.mem_cons_self ..) t hd he)

theorem putAll_upd (x : Nat → Value) (i : Nat) (v : Value) : ∀ (ds : List (Option Tmp)) (k : Nat) (a : Act), i < k → putAll (upd x i v) ds k a = putAll x ds k a
  | [], _, _, _ => rfl
  | e :: ds, k, a, h => by
    simp only [putAll]
    rw [show upd x i v k = x k from if_neg (by omega)]
    exact putAll_upd x i v ds (k + 1) _ (by omega)

/-- Writing operation i's temporary is turning value i. -/
theorem putAll_set (x : Nat → Value) (i : Nat) (v : Value) : ∀ (ds : List (Option Tmp)) (k : Nat) (a : Act) (d : Option Tmp), k ≤ i → ds[i - k]? = some d →
    (∀ j e, ds[j]? = some e → j ≠ i - k → ∀ t, d = some t → e ≠ some t) → (putAll x ds k a).put d v = putAll (upd x i v) ds k a
  | [], _, _, _, _, hd, _ => by simp at hd
  | e :: ds, k, a, d, hk, hd, h => by
    simp only [putAll]
    rcases Nat.eq_or_lt_of_le hk with rfl | hlt
    · rw [Nat.sub_self] at hd h
      simp at hd
      subst hd
      rw [putAll_put x v ds _ _ e (fun e' he' => by
        obtain ⟨j, hj⟩ := List.getElem?_of_mem he'
        exact h (j + 1) e' (by simpa using hj) (by omega)), put_same, putAll_upd x k v ds (k + 1) _ (by omega)]
      rw [show upd x k v k = v from if_pos rfl]
    · have e1 : i - k = (i - (k + 1)) + 1 := by omega
      rw [e1] at hd
      rw [putAll_set x i v ds (k + 1) _ d (by omega) (by simpa using hd) (fun j e' hj hne => h (j + 1) e' (by simpa using hj) (by omega))]
      rw [show upd x i v k = x k from if_neg (by omega)]

theorem putAll_self : ∀ (ds : List (Option Tmp)) (k : Nat) (a : Act), ∃ x, putAll x ds k a = a
  | [], _, a => ⟨fun _ => undef, rfl⟩
  | d :: ds, k, a => by
    obtain ⟨x, hx⟩ := putAll_self ds (k + 1) a
    let u := match d with | some t => a.tmps.getD t undef | none => undef
    have hu : a.put d u = a := by
      cases d with
      | none => rfl
      | some t =>
        simp only [Act.put, u]
        congr 1
        apply Array.ext
        · simp
        · intro j h1 h2
          rw [Array.getElem_setIfInBounds]
          split
          · rename_i e
            subst e
            simp [Array.getD, h2]
          · rfl
    refine ⟨upd x k u, ?_⟩
    simp only [putAll]
    rw [show upd x k u k = u from if_pos rfl, hu, putAll_upd x k u ds (k + 1) a (by omega), hx]

theorem countP_one (f g : Nat → Bool) (i : Nat) (hf : f i = false) (hg : g i = true) (h : ∀ j, j ≠ i → g j = f j) : ∀ n, (List.range n).countP g = (List.range n).countP f + if i < n then 1 else 0
  | 0 => by simp
  | n + 1 => by
    rw [List.range_succ, List.countP_append, List.countP_append, countP_one f g i hf hg h n]
    simp only [List.countP_singleton]
    by_cases e : n = i
    · subst e
      simp [hf, hg]
    · rw [h n e]
      by_cases hi : i < n
      · simp [hi, show i < n + 1 by omega]
        omega
      · simp [hi, show ¬ i < n + 1 by omega]

section
variable {P : Program} {ops : Array Oper} {Q : Exit → Act → World → Prop} {md : Region.Mode}

def dsts (ops : Array Oper) : List (Option Tmp) := ops.toList.map (·.dst)
def depsOf (md : Region.Mode) (o : Oper) : List Nat := (o.after.toList.filter (Region.binds md)).map (·.on)

/-- What an operation comes to: a value that meets T, and a world that has only grown. -/
def OutT (P : Program) (T : Value → World → Prop) (w : World) : Result Next → Prop
  | .ok (.value u) w' => Ext w w' ∧ T u w'
  | .ok (.enter f args) w' => Calls P f args w' fun e w'' => ∃ v, e = .returned v ∧ Ext w w'' ∧ T v w''
  | _ => False

/-- Operation i does its part, in every state in which those that it waits for have done theirs. -/
def StepOk (P : Program) (md : Region.Mode) (ops : Array Oper) (Γ : Nat → Value → World → Prop) (G : World → Prop) (a0 : Act) (i : Nat) : Prop :=
  ∀ (o : Oper), ops[i]? = some o → ∀ (x : Nat → Value) (w : World), G w → (∀ j ∈ depsOf md o, Γ j (x j) w) →
    (Region.wanted o (yielded ops (putAll x (dsts ops) 0 a0).tmps) = true ∧ OutT P (Γ i) w ((execOp (putAll x (dsts ops) 0 a0).eval o).run P w)) ∨
    (Region.wanted o (yielded ops (putAll x (dsts ops) 0 a0).tmps) = false ∧ Γ i undef w)

def distinctB (ops : Array Oper) : Bool := ((ops.toList.map (·.dst)).filterMap id).Nodup
def risingB (md : Region.Mode) (ops : Array Oper) : Bool := (List.range ops.size).all fun i => match ops[i]? with | some o => (depsOf md o).all (· < i) | none => true

theorem OutT.wp {o : Oper} {T : Value → World → Prop} {a : Act} {w : World} {K : Act → World → Prop} (h : OutT P T w ((execOp a.eval o).run P w)) (hK : ∀ v w', Ext w w' → T v w' → K (a.put o.dst v) w') : o.wp P a w K Q := by
  unfold Oper.wp
  generalize (execOp a.eval o).run P w = r at *
  cases r with
  | ok n w' =>
    cases n with
    | value u => exact hK _ _ h.1 h.2
    | enter f args =>
      refine Calls.mono h fun e w'' he => ?_
      obtain ⟨v, rfl, h1, h2⟩ := he
      exact hK _ _ h1 h2
    | _ => exact h.elim
  | halt x w' => exact h.elim

theorem distinct_spec (h : distinctB ops = true) {i j : Nat} {t : Tmp} (hi : (dsts ops)[i]? = some (some t)) (hj : (dsts ops)[j]? = some (some t)) : i = j := by
  unfold distinctB at h
  have hn := of_decide_eq_true h
  clear h
  unfold dsts at hi hj
  generalize ops.toList.map (·.dst) = l at *
  induction l generalizing i j with
  | nil => simp at hi
  | cons d l ih =>
    cases d with
    | none =>
      simp at hn
      cases i with
      | zero => simp at hi
      | succ i =>
        cases j with
        | zero => simp at hj
        | succ j => rw [ih (i := i) (j := j) (by simpa using hi) (by simpa using hj) hn]
    | some d =>
      simp only [List.filterMap_cons, id] at hn
      rw [List.nodup_cons] at hn
      cases i with
      | zero =>
        cases j with
        | zero => rfl
        | succ j =>
          exfalso
          simp at hi hj
          subst hi
          exact hn.1 (List.mem_filterMap.2 ⟨some d, List.mem_of_getElem? hj, rfl⟩)
      | succ i =>
        cases j with
        | zero =>
          exfalso
          simp at hi hj
          subst hj
          exact hn.1 (List.mem_filterMap.2 ⟨some d, List.mem_of_getElem? hi, rfl⟩)
        | succ j => rw [ih (i := i) (j := j) (by simpa using hi) (by simpa using hj) hn.2]

theorem wpAny_inv (Γ : Nat → Value → World → Prop) (G : World → Prop) (a0 : Act) (hΓ : ∀ i v w w', Γ i v w → Ext w w' → Γ i v w') (hG : ∀ w w', G w → Ext w w' → G w')
    (hd : distinctB ops = true) (hr : risingB md ops = true) (hstep : ∀ i, i < ops.size → StepOk P md ops Γ G a0 i)
    (hend : ∀ x w, G w → (∀ i, i < ops.size → Γ i (x i) w) → Q .normal (putAll x (dsts ops) 0 a0) w) :
    ∀ (fuel : Nat) (listed : Array Bool) (x : Nat → Value) (w : World), listed.size = ops.size → (List.range ops.size).countP (fun j => listed.getD j false) + fuel = ops.size →
      G w → (∀ i, listed.getD i false = true → Γ i (x i) w) → wpAny P md ops Q fuel listed (putAll x (dsts ops) 0 a0) w := by
  have hall : ∀ (listed : Array Bool), listed.size = ops.size → Region.ready md ops listed = [] → ∀ i, i < ops.size → listed.getD i false = true := by
    intro listed hs h0 i
    induction i using Nat.strongRecOn with
    | _ i ih =>
      intro hi
      by_cases hl : listed.getD i false = true
      · exact hl
      · exfalso
        have hmem : i ∈ Region.ready md ops listed := by
          rw [mem_ready]
          have hil : i < listed.size := by omega
          have h1 : listed.getD i true = false := by
            simp [Array.getD, hil] at hl ⊢
            exact hl
          refine ⟨h1, ops[i], by simp [hi], fun e he hb => ?_⟩
          unfold risingB at hr
          have h2 := List.all_eq_true.1 hr i (by simp [hi])
          simp [hi] at h2
          have h3 := h2 e.on (by
            unfold depsOf
            exact List.mem_map.2 ⟨e, List.mem_filter.2 ⟨by simpa using he, hb⟩, rfl⟩)
          exact ih e.on h3 (by omega)
        rw [h0] at hmem
        cases hmem
  intro fuel
  induction fuel with
  | zero =>
    intro listed x w hs hc hg hx
    have hl : ∀ i, i < ops.size → listed.getD i false = true := fun i hi => by
      have h1 : (List.range ops.size).countP (fun j => listed.getD j false) = (List.range ops.size).length := by simpa using hc
      exact List.countP_eq_length.1 h1 i (by simp [hi])
    refine ⟨?_, hend x w hg fun i hi => hx i (hl i hi)⟩
    refine List.eq_nil_iff_forall_not_mem.2 fun j hj => ?_
    obtain ⟨h1, o, ho, _⟩ := mem_ready.1 hj
    have hjs : j < ops.size := (Array.getElem?_eq_some_iff.1 ho).1
    have h2 := hl j hjs
    have : j < listed.size := by omega
    simp [Array.getD, this] at h1 h2
    rw [h1] at h2
    cases h2
  | succ fuel ih =>
    intro listed x w hs hc hg hx
    refine ⟨fun h0 => hend x w hg fun i hi => hx i (hall listed hs h0 i hi), fun i hi => ?_⟩
    obtain ⟨h1, o, ho, hdep⟩ := mem_ready.1 hi
    have his : i < ops.size := (Array.getElem?_eq_some_iff.1 ho).1
    have hil : i < listed.size := by omega
    have hds : (dsts ops)[i]? = some o.dst := by
      unfold dsts
      rw [List.getElem?_map, Array.getElem?_toList, ho]
      rfl
    have hput : ∀ v, (putAll x (dsts ops) 0 a0).put o.dst v = putAll (upd x i v) (dsts ops) 0 a0 := fun v =>
      putAll_set x i v (dsts ops) 0 a0 o.dst (Nat.zero_le _) (by simpa using hds) (fun j e hj hne t ht he => by
        rw [Nat.sub_zero] at hne
        rw [ht] at hds
        rw [he] at hj
        exact hne (distinct_spec hd hj hds))
    have hnext : ∀ v w', Ext w w' → Γ i v w' → wpAny P md ops Q fuel (listed.setIfInBounds i true) (putAll (upd x i v) (dsts ops) 0 a0) w' := fun v w' hw hv => by
      refine ih _ _ _ (by simpa using hs) ?_ (hG _ _ hg hw) fun j hj => ?_
      · have hone := countP_one (fun j => listed.getD j false) (fun j => (listed.setIfInBounds i true).getD j false) i (by simp [Array.getD, hil] at h1 ⊢; exact h1) (by simp [Array.getD, hil]) (fun j hj => getD_set_ne false (Ne.symm hj)) ops.size
        rw [hone, if_pos his]
        omega
      · by_cases e : j = i
        · subst e
          simpa [upd] using hv
        · rw [getD_set_ne false (Ne.symm e)] at hj
          rw [show upd x i v j = x j from if_neg e]
          exact hΓ _ _ _ _ (hx j hj) hw
    have hok := hstep i his o ho x w hg (fun j hj => by
      unfold depsOf at hj
      obtain ⟨e, he, rfl⟩ := List.mem_map.1 hj
      obtain ⟨he1, he2⟩ := List.mem_filter.1 he
      exact hx _ (hdep e (by simpa using he1) he2))
    unfold wpOp
    simp only [ho]
    rcases hok with ⟨hw, hout⟩ | ⟨hw, hu⟩
    · simp only [hw, if_true]
      exact .inl (hout.wp fun v w' hx1 hv => by rw [hput]; exact hnext v w' hx1 hv)
    · simp only [hw, Bool.false_eq_true, if_false]
      rw [hput]
      exact hnext undef w (Ext.refl w) hu

/-- The region, by its invariant. -/
theorem wp_region_inv {id : Nat} {a0 : Act} {w : World} (Γ : Nat → Value → World → Prop) (G : World → Prop) (hm : P.follows .mixedOrders = true)
    (hd : distinctB ops = true) (hr : risingB .any ops = true) (hΓ : ∀ i v w w', Γ i v w → Ext w w' → Γ i v w') (hG : ∀ w w', G w → Ext w w' → G w') (hg : G w.drew)
    (hstep : ∀ i, i < ops.size → StepOk P .any ops Γ G a0 i)
    (hend : ∀ x w, G w → (∀ i, i < ops.size → Γ i (x i) w) → Q .normal (putAll x (dsts ops) 0 a0) w) : (Code.region id ops true).wp P Q a0 w := by
  obtain ⟨x, hx⟩ := putAll_self (dsts ops) 0 a0
  have h := wpAny_inv (P := P) (Q := Q) (md := .any) Γ G a0 hΓ hG hd hr hstep hend ops.size (Array.replicate ops.size false) x w.drew (by simp) (by
    have : (List.range ops.size).countP (fun j => (Array.replicate ops.size false).getD j false) = 0 := by
      rw [List.countP_eq_zero]
      intro j hj
      simp [Array.getD]
    omega) hg (fun i hi => by simp [Array.getD] at hi)
  rw [hx] at h
  exact wp_region_any hm h
end
end Go.Proofs.YtinhenmafjoaoaaGreatDoor

/- A region that draws its order, by an invariant, with operations behind it (from n on) that wait for all of the first n: whatever the order of the first n, all meet theirs; then the others are walked. -/
namespace Go.Proofs.YtinhenmafjoaoaaGreatDoor
open Go.RowKit

def upTo (n m : Nat) : Array Bool := ((List.range m).map fun j => decide (j < n)).toArray
theorem upTo_size (n m : Nat) : (upTo n m).size = m := by simp [upTo]
theorem upTo_get (n m k : Nat) (h : k < m) : (upTo n m).getD k false = decide (k < n) := by
  unfold upTo
  simp [Array.getD, h]
theorem countP_lt (n : Nat) : ∀ m, (List.range m).countP (fun j => decide (j < n)) = min n m
  | 0 => by simp
  | m + 1 => by
    rw [List.range_succ, List.countP_append, countP_lt n m]
    simp only [List.countP_singleton]
    by_cases h : m < n
    · simp [h]; omega
    · simp [h]; omega
theorem countP_le {f g : Nat → Bool} {l : List Nat} (h : ∀ j ∈ l, f j = true → g j = true) : l.countP f ≤ l.countP g := List.countP_mono_left h

section
variable {P : Program} {ops : Array Oper} {Q : Exit → Act → World → Prop} {md : Region.Mode}
theorem outT_run {T : Value → World → Prop} {w w' : World} {ev : Operand → Value} {o : Oper} {u : Value} (h : (execOp ev o).run P w = .ok (.value u) w') (he : Ext w w') (hT : T u w') : OutT P T w ((execOp ev o).run P w) := by
  rw [h]; exact ⟨he, hT⟩
theorem outT_call {T : Value → World → Prop} {w : World} {ev : Operand → Value} {o : Oper} {f : FuncId} {args : Array Value} (h : (execOp ev o).run P w = .ok (.enter f args) w)
    (hc : Calls P f args w fun e w'' => ∃ v, e = .returned v ∧ Ext w w'' ∧ T v w'') : OutT P T w ((execOp ev o).run P w) := by
  rw [h]; exact hc

def tailB (md : Region.Mode) (ops : Array Oper) (n : Nat) : Bool := (List.range ops.size).all fun k => decide (k < n) || match ops[k]? with | some o => (List.range n).all fun j => (depsOf md o).contains j | none => true
theorem tail_spec {n k : Nat} {o : Oper} (h : tailB md ops n = true) (hk : n ≤ k) (ho : ops[k]? = some o) : ∀ j, j < n → j ∈ depsOf md o := by
  intro j hj
  have hks := (Array.getElem?_eq_some_iff.1 ho).1
  have h1 := List.all_eq_true.1 h k (by simp [hks])
  rw [ho] at h1
  have h2 : decide (k < n) = false := decide_eq_false (by omega)
  simp only [h2, Bool.false_or] at h1
  have h3 := List.all_eq_true.1 h1 j (by simp [hj])
  simpa using h3

theorem wpAny_in2 (n : Nat) (Γ : Nat → Value → World → Prop) (G : World → Prop) (a0 : Act) (hΓ : ∀ i v w w', Γ i v w → Ext w w' → Γ i v w') (hG : ∀ w w', G w → Ext w w' → G w')
    (hd : distinctB ops = true) (hr : risingB md ops = true) (hn : n ≤ ops.size) (ht : tailB md ops n = true) (hstep : ∀ i, i < n → StepOk P md ops Γ G a0 i)
    (hend : ∀ x w, G w → (∀ i, i < n → Γ i (x i) w) → wpAny P md ops Q (ops.size - n) (upTo n ops.size) (putAll x (dsts ops) 0 a0) w) :
    ∀ (fuel : Nat) (listed : Array Bool) (x : Nat → Value) (w : World), listed.size = ops.size → (∀ k, n ≤ k → k < ops.size → listed.getD k false = false) → (List.range ops.size).countP (fun j => listed.getD j false) + fuel = ops.size →
      G w → (∀ i, i < n → listed.getD i false = true → Γ i (x i) w) → wpAny P md ops Q fuel listed (putAll x (dsts ops) 0 a0) w := by
  have hfree : ∀ (listed : Array Bool), listed.size = ops.size → (¬ ∀ i, i < n → listed.getD i false = true) → ∃ i, i < n ∧ i ∈ Region.ready md ops listed := by
    intro listed hs hno
    by_cases hex : ∃ i, i < n ∧ i ∈ Region.ready md ops listed
    · exact hex
    · exfalso
      refine hno fun i => ?_
      induction i using Nat.strongRecOn with
      | _ i ih =>
        intro hi
        by_cases hl : listed.getD i false = true
        · exact hl
        · exfalso
          refine hex ⟨i, hi, ?_⟩
          rw [mem_ready]
          have his : i < ops.size := by omega
          have hil : i < listed.size := by omega
          have h1 : listed.getD i true = false := by
            simp [Array.getD, hil] at hl ⊢
            exact hl
          refine ⟨h1, ops[i], by simp [his], fun e he hb => ?_⟩
          have h2 := List.all_eq_true.1 (show (List.range ops.size).all _ = true from hr) i (by simp [his])
          simp [his] at h2
          have h3 := h2 e.on (by
            unfold depsOf
            exact List.mem_map.2 ⟨e, List.mem_filter.2 ⟨by simpa using he, hb⟩, rfl⟩)
          exact ih e.on h3 (by omega)
  intro fuel
  induction fuel with
  | zero =>
    intro listed x w hs hk hc hg hx
    have hl : ∀ i, i < ops.size → listed.getD i false = true := fun i hi => by
      have h1 : (List.range ops.size).countP (fun j => listed.getD j false) = (List.range ops.size).length := by simpa using hc
      exact List.countP_eq_length.1 h1 i (by simp [hi])
    have hno : n = ops.size := by
      rcases Nat.lt_or_ge n ops.size with h | h
      · have h1 := hl n h
        rw [hk n (Nat.le_refl _) h] at h1
        cases h1
      · omega
    have he := hend x w hg fun i hi => hx i hi (hl i (by omega))
    rw [show ops.size - n = 0 by omega] at he
    have e1 : listed = upTo n ops.size := by
      apply Array.ext
      · rw [upTo_size, hs]
      · intro j h1 h2
        have h3 := hl j (by omega)
        have h4 := upTo_get n ops.size j (by omega)
        rw [decide_eq_true (by omega)] at h4
        simp [Array.getD, h1] at h3
        simp [Array.getD, h2] at h4
        rw [h3, h4]
    rw [e1]
    exact he
  | succ fuel ih =>
    intro listed x w hs hk hc hg hx
    by_cases hall : ∀ i, i < n → listed.getD i false = true
    · have he := hend x w hg fun i hi => hx i hi (hall i hi)
      have e1 : listed = upTo n ops.size := by
        apply Array.ext
        · rw [upTo_size, hs]
        · intro j h1 h2
          have h4 := upTo_get n ops.size j (by omega)
          simp [Array.getD, h2] at h4
          by_cases hj : j < n
          · have h3 := hall j hj
            simp [Array.getD, h1] at h3
            rw [h3, h4, decide_eq_true hj]
          · have h3 := hk j (by omega) (by omega)
            simp [Array.getD, h1] at h3
            rw [h3, h4, decide_eq_false hj]
      have e2 : (List.range ops.size).countP (fun j => listed.getD j false) = n := by
        rw [e1]
        have : (List.range ops.size).countP (fun j => (upTo n ops.size).getD j false) = (List.range ops.size).countP (fun j => decide (j < n)) := by
          apply List.countP_congr
          intro j hj
          rw [upTo_get n ops.size j (by simpa using hj)]
        rw [this, countP_lt]
        omega
      rw [show ops.size - n = fuel + 1 by omega] at he
      rw [e1]
      exact he
    · obtain ⟨i0, hi0, hi0r⟩ := hfree listed hs hall
      refine ⟨fun h0 => (by rw [h0] at hi0r; cases hi0r), fun i hi => ?_⟩
      obtain ⟨h1, o, ho, hdep⟩ := mem_ready.1 hi
      have his : i < ops.size := (Array.getElem?_eq_some_iff.1 ho).1
      have hil : i < listed.size := by omega
      have hin : i < n := by
        rcases Nat.lt_or_ge i n with h | h
        · exact h
        · exfalso
          refine hall fun j hj => ?_
          have h2 := tail_spec ht h ho j hj
          unfold depsOf at h2
          obtain ⟨e, he, rfl⟩ := List.mem_map.1 h2
          obtain ⟨he1, he2⟩ := List.mem_filter.1 he
          exact hdep e (by simpa using he1) he2
      have hds : (dsts ops)[i]? = some o.dst := by
        unfold dsts
        rw [List.getElem?_map, Array.getElem?_toList, ho]
        rfl
      have hput : ∀ v, (putAll x (dsts ops) 0 a0).put o.dst v = putAll (upd x i v) (dsts ops) 0 a0 := fun v =>
        putAll_set x i v (dsts ops) 0 a0 o.dst (Nat.zero_le _) (by simpa using hds) (fun j e hj hne t ht he => by
          rw [Nat.sub_zero] at hne
          rw [ht] at hds
          rw [he] at hj
          exact hne (distinct_spec hd hj hds))
      have hnext : ∀ v w', Ext w w' → Γ i v w' → wpAny P md ops Q fuel (listed.setIfInBounds i true) (putAll (upd x i v) (dsts ops) 0 a0) w' := fun v w' hw hv => by
        refine ih _ _ _ (by simpa using hs) (fun k h1 h2 => ?_) ?_ (hG _ _ hg hw) fun j hj1 hj => ?_
        · rw [getD_set_ne false (by omega)]
          exact hk k h1 h2
        · have hone := countP_one (fun j => listed.getD j false) (fun j => (listed.setIfInBounds i true).getD j false) i (by simp [Array.getD, hil] at h1 ⊢; exact h1) (by simp [Array.getD, hil]) (fun j hj => getD_set_ne false (Ne.symm hj)) ops.size
          rw [hone, if_pos his]
          omega
        · by_cases e : j = i
          · subst e
            simpa [upd] using hv
          · rw [getD_set_ne false (Ne.symm e)] at hj
            rw [show upd x i v j = x j from if_neg e]
            exact hΓ _ _ _ _ (hx j hj1 hj) hw
      have hok := hstep i hin o ho x w hg (fun j hj => by
        have hji : j < i := by
          have h2 := List.all_eq_true.1 (show (List.range ops.size).all _ = true from hr) i (by simp [his])
          rw [ho] at h2
          simpa using List.all_eq_true.1 h2 j hj
        unfold depsOf at hj
        obtain ⟨e, he, rfl⟩ := List.mem_map.1 hj
        obtain ⟨he1, he2⟩ := List.mem_filter.1 he
        exact hx _ (by omega) (hdep e (by simpa using he1) he2))
      unfold wpOp
      simp only [ho]
      rcases hok with ⟨hw, hout⟩ | ⟨hw, hu⟩
      · simp only [hw, if_true]
        exact .inl (hout.wp fun v w' hx1 hv => by rw [hput]; exact hnext v w' hx1 hv)
      · simp only [hw, Bool.false_eq_true, if_false]
        rw [hput]
        exact hnext undef w (Ext.refl w) hu

/-- The region: the first n by an invariant, the others walked. -/
theorem wp_region_in2 (n : Nat) (S : Nat → Prop) {id : Nat} {a0 : Act} {w : World} (Γ : Nat → Value → World → Prop) (G : World → Prop) (hm : P.follows .mixedOrders = true)
    (hd : distinctB ops = true) (hr : risingB .any ops = true) (hn : decide (n ≤ ops.size) = true) (ht : tailB .any ops n = true) (hΓ : ∀ i v w w', Γ i v w → Ext w w' → Γ i v w') (hG : ∀ w w', G w → Ext w w' → G w') (hg : G w.drew)
    (hstep : ∀ i, i < n → StepOk P .any ops Γ G a0 i)
    (hend : ∀ x w, G w → (∀ i, i < n → Γ i (x i) w) → wpR P .any ops S Q (ops.size - n) (upTo n ops.size) (putAll x (dsts ops) 0 a0) w) : (Code.region id ops true).wp P Q a0 w := by
  obtain ⟨x, hx⟩ := putAll_self (dsts ops) 0 a0
  have hz : ∀ k, (Array.replicate ops.size false).getD k false = false := fun k => by
    by_cases h : k < ops.size <;> simp [Array.getD, h]
  have h := wpAny_in2 (P := P) (Q := Q) (md := .any) n Γ G a0 hΓ hG hd hr (of_decide_eq_true hn) ht hstep (fun x w h1 h2 => wpAny_of_R _ _ _ _ (hend x w h1 h2)) ops.size (Array.replicate ops.size false) x w.drew (by simp) (fun k _ _ => hz k) (by
    have : (List.range ops.size).countP (fun j => (Array.replicate ops.size false).getD j false) = 0 := by
      rw [List.countP_eq_zero]
      intro j hj
      rw [hz j]
      simp
    omega) hg (fun i _ hi => by rw [hz i] at hi; cases hi)
  rw [hx] at h
  exact wp_region_any hm h
end
end Go.Proofs.YtinhenmafjoaoaaGreatDoor

/- Rows of the call's own, written to: a range of cells put in; an element set. -/
namespace Go.Proofs.YtinhenmafjoaoaaGreatDoor
open Go.RowKit

def putR (cs : List Value) (o : Nat) (vs : List Value) : List Value := cs.take o ++ (vs ++ cs.drop (o + vs.length))
theorem putR_length (cs : List Value) (o : Nat) (vs : List Value) (h : o + vs.length ≤ cs.length) : (putR cs o vs).length = cs.length := by
  simp only [putR, List.length_append, List.length_take, List.length_drop]
  omega
theorem putR_nil (cs : List Value) (o : Nat) : putR cs o [] = cs := by simp [putR]
theorem putR_cons (cs : List Value) (o : Nat) (v : Value) (vs : List Value) (h : o < cs.length) : putR (cs.set o v) (o + 1) vs = putR cs o (v :: vs) := by
  unfold putR
  have e1 : (cs.set o v).take (o + 1) = cs.take o ++ [v] := by
    rw [List.take_set, List.take_add_one, List.getElem?_eq_getElem h]
    simp only [Option.toList_some]
    rw [List.set_append_right _ _ (by rw [List.length_take]; omega)]
    rw [show o - (cs.take o).length = 0 by rw [List.length_take]; omega]
    rfl
  rw [e1, List.drop_set_of_lt (by omega), List.length_cons, List.append_assoc, show o + 1 + vs.length = o + (vs.length + 1) by omega]
  rfl
theorem setCells_block (g : Nat) : ∀ (vs : List Value) (o : Nat) (w : World) (i : Nat), i ≠ g → (w.setCells g o vs).heap[i]? = w.heap[i]?
  | [], _, _, _, _ => rfl
  | v :: r, o, w, i, h => by
    rw [World.setCells, setCells_block g r (o + 1) _ i h]
    exact Below.heap_setCell w ⟨g, o, none⟩ v i h
theorem setCells_size (g : Nat) : ∀ (vs : List Value) (o : Nat) (w : World), (w.setCells g o vs).heap.size = w.heap.size
  | [], _, _ => rfl
  | v :: r, o, w => by
    rw [World.setCells, setCells_size g r (o + 1) _]
    simp [World.setCell]
theorem setCells_env (g : Nat) : ∀ (vs : List Value) (o : Nat) (w : World), (w.setCells g o vs).os = w.os ∧ (w.setCells g o vs).tape = w.tape ∧ (w.setCells g o vs).output = w.output
  | [], _, _ => ⟨rfl, rfl, rfl⟩
  | v :: r, o, w => by
    rw [World.setCells]
    exact setCells_env g r (o + 1) _
theorem kept_setCells {S : Nat → Prop} {w : World} {g : Nat} (hS : S g) (o : Nat) (vs : List Value) : Kept S w (w.setCells g o vs) :=
  ⟨(setCells_env g vs o w).1, (setCells_env g vs o w).2.1, (setCells_env g vs o w).2.2, Nat.le_of_eq (setCells_size g vs o w).symm, fun i _ hn => setCells_block g vs o w i (fun e => hn (e ▸ hS))⟩
theorem below_setCells {B : Nat} {a w : World} {g : Nat} (h : Below B a w) (hg : B ≤ g) (o : Nat) (vs : List Value) : Below B a (w.setCells g o vs) :=
  ⟨(setCells_env g vs o w).1.trans h.os, (setCells_env g vs o w).2.1.trans h.tape, (setCells_env g vs o w).2.2.trans h.output, by rw [setCells_size]; exact h.size, fun i hi => (setCells_block g vs o w i (by omega)).trans (h.block i hi)⟩
theorem Whole.cells_ {g : Nat} {t : TypeId} : ∀ (vs : List Value) (o : Nat) (w : World) (cs : List Value), Whole w g t cs → o + vs.length ≤ cs.length → Whole (w.setCells g o vs) g t (putR cs o vs)
  | [], _, _, cs, h, _ => by rw [putR_nil]; exact h
  | v :: r, o, w, cs, h, hl => by
    rw [List.length_cons] at hl
    rw [World.setCells, ← putR_cons cs o v r (by omega)]
    exact Whole.cells_ r (o + 1) _ _ (h.set_ o v) (by rw [List.length_set]; omega)
theorem Whole.cells_far {w : World} {g g' : Nat} {t : TypeId} {cs : List Value} (h : Whole w g t cs) (hne : g ≠ g') (o : Nat) (vs : List Value) : Whole (w.setCells g' o vs) g t cs := (setCells_block g' vs o w g hne).trans h
theorem Whole.there_ {w : World} {g : Nat} {t : TypeId} {cs : List Value} (h : Whole w g t cs) (o n : Nat) (hl : o + n ≤ cs.length) : w.there g o n := fun j hj => by
  have hv : cs[o + j]? = some (cs[o + j]'(by omega)) := List.getElem?_eq_getElem (by omega)
  exact ⟨by rw [h.cell hv]; rfl, h.free _⟩
theorem own_cells_far {w : World} {lo k n g : Nat} {T : TypeId} {v : Value} {xs : List Value} (h : w.ownsRow lo T k v n xs) (hne : some g ≠ v.ownBlock) (o : Nat) (vs : List Value) : (w.setCells g o vs).ownsRow lo T k v n xs :=
  h.kept (row := some g) ⟨(setCells_env g vs o w).1, (setCells_env g vs o w).2.1, (setCells_env g vs o w).2.2, Nat.le_of_eq (setCells_size g vs o w).symm, fun i _ hk => setCells_block g vs o w i (fun e => hk (by rw [e]))⟩ (by first | exact hne | exact hne.symm | exact .inr hne | exact .inr hne.symm)
theorem own_cell_far {w : World} {lo k n g i : Nat} {T : TypeId} {v : Value} {xs : List Value} (h : w.ownsRow lo T k v n xs) (hne : some g ≠ v.ownBlock) (u : Value) : (w.setCell ⟨g, i, none⟩ u).ownsRow lo T k v n xs :=
  own_cells_far h hne i [u]

section
variable {α : Type} {f : α → List Value} {s : Nat}
theorem rowsV_put (hs : ∀ x, (f x).length = s) (L : List α) (junk : List Value) (k : Nat) (y : α) (hk : k < L.length) : putR (rowsV f L ++ junk) (k * s) (f y) = rowsV f (L.set k y) ++ junk := by
  have e1 : L.set k y = L.take k ++ y :: L.drop (k + 1) := by
    rw [List.set_eq_take_append_cons_drop, if_pos hk]
  have hl := rowsV_length f hs L
  have hm : (k + 1) * s ≤ L.length * s := Nat.mul_le_mul_right _ hk
  rw [Nat.succ_mul] at hm
  unfold putR
  rw [e1, rowsV_app, rowsV_take f hs]
  simp only [rowsV]
  rw [rowsV_drop f hs, hs, List.take_append_of_le_length (by omega), List.drop_append_of_le_length (by omega), show k * s + s = (k + 1) * s by rw [Nat.succ_mul]]
  simp only [List.append_assoc]
end

/-- Where a row of the call's own lies. -/
theorem own_place {W : World} {lo k n c : Nat} {T : TypeId} {A : Option Addr} {xs : List Value} (h : W.ownsRow lo T k (.slice A n c) n xs) (hn : 0 < n) :
    ∃ g junk, A = some ⟨g, 0, none⟩ ∧ lo ≤ g ∧ Whole W g T (xs ++ junk) ∧ (xs ++ junk).length = c * k ∧ n ≤ c ∧ c ≤ maxLen ∧ xs.length = n * k := by
  rcases h.2 with ⟨h1, h2⟩ | ⟨g, cap, cur, h1, hb, hg, hnc, hcm, hcs, ht⟩
  · omega
  · injection h1 with a1 a2 a3
    subst a1 a3
    have e : cur.toList = xs ++ cur.toList.drop (n * k) := by
      conv => lhs; rw [← List.take_append_drop (n * k) cur.toList, ht]
    refine ⟨g, cur.toList.drop (n * k), rfl, hb, ?_, ?_, hnc, hcm, h.1⟩
    · unfold Whole
      rw [← e]
      simpa using hg
    · rw [← e]
      simpa using hcs
theorem own_mk {W : World} {lo k n c g : Nat} {T : TypeId} {xs junk : List Value} (hw : Whole W g T (xs ++ junk)) (hlo : lo ≤ g) (hl : (xs ++ junk).length = c * k) (hnc : n ≤ c) (hcm : c ≤ maxLen) (hx : xs.length = n * k) :
    W.ownsRow lo T k (.slice (some ⟨g, 0, none⟩) n c) n xs :=
  ⟨hx, .inr ⟨g, c, (xs ++ junk).toArray, rfl, hlo, hw, hnc, hcm, by simpa using hl, by rw [← hx]; simp⟩⟩
theorem own_cap {W : World} {lo k n c : Nat} {T : TypeId} {A : Option Addr} {xs : List Value} (h : W.ownsRow lo T k (.slice A n c) n xs) : c ≤ maxLen := by
  rcases h.2 with ⟨h1, h2⟩ | ⟨g, cap, cur, h1, hb, hg, hnc, hcm, hcs, ht⟩
  · injection h1 with a1 a2 a3
    omega
  · injection h1 with a1 a2 a3
    omega
theorem own_rds {W : World} {lo k n c : Nat} {T : TypeId} {A : Option Addr} {xs : List Value} (h : W.ownsRow lo T k (.slice A n c) n xs) : RdS W W.heap.size k A n c xs := by
  obtain ⟨A', c', e, hr⟩ := RdS.of_own h
  injection e with a1 a2 a3
  subst a1 a3
  exact hr
theorem own_lt {W : World} {lo k n c : Nat} {T : TypeId} {A : Option Addr} {xs : List Value} (h : W.ownsRow lo T k (.slice A n c) n xs) {a : Addr} (ha : A = some a) : lo ≤ a.block ∧ a.block < W.heap.size := by
  subst ha
  exact h.lt a.block rfl
/-- A row's block is of its own type. -/
theorem own_ne {W : World} {lo k n c g : Nat} {T T' : TypeId} {A : Option Addr} {xs cs : List Value} (h : W.ownsRow lo T k (.slice A n c) n xs) (hw : Whole W g T' cs) (hT : T' ≠ T) : some g ≠ (Value.slice A n c).ownBlock := by
  intro e
  rcases h.2 with ⟨h1, h2⟩ | ⟨g', cap, cur, h1, hb, hg, hnc, hcm, hcs, ht⟩
  · rw [h1] at e
    cases e
  · rw [h1] at e
    have e' : g = g' := Option.some.inj e
    subst e'
    unfold Whole at hw
    rw [hg] at hw
    injection hw with hw
    injection hw with _ ht
    exact hT ht.symm
theorem store_mid_run {P : Program} {ev : Operand → Value} {o : Oper} {w : World} (ty : TypeId) (x y : Operand) (ho : o.op = .store ty x y) (b off : Nat) (hx : ev x = .pointer (some ⟨b, off, none⟩))
    (cs : List Value) (hy : ev y = .agg cs.toArray) (ht : w.there b off cs.length) (hi : (P.info? ty).map (·.size) = some cs.length) (h1 : ∀ v ∈ cs, v.oneCell' = true) :
    (execOp ev o).run P w = .ok .skip (w.setCells b off cs) := by
  have h := run_storeAt_mid (P := P) w b off ty cs.toArray (by simpa using ht) (by simpa using hi) (all_oneCell_toArray h1)
  unfold execOp
  simp only [ho, hx, hy, Sem.run_bind, Sem.run_pure, Result.andThen_ok, h]
end Go.Proofs.YtinhenmafjoaoaaGreatDoor
