/- Words for slices in memory: what a slice reads as, and an append from whatever slice to a row of the call's own. -/
import Derived.WalkKit
import Derived.Deep.Slices
import Derived.Lib.SmallJoins
import Derived.Deep.AppendLies
import Derived.Maps.AppendAt
import Derived.Laws.AppendOwnNone
namespace Go.Proofs.Ythfngmlnmpbcpaa
open Go.RowKit

def u8v (x : Int) : Value := .int .u8 x
def bytesV (bs : List Int) : List Value := bs.map u8v

/-- The slice value of address A, length n, capacity c holds the cells xs, and lies below block B. -/
structure RdS (w : World) (B size : Nat) (A : Option Addr) (n c : Nat) (xs : List Value) : Prop where
  len : xs.length = n * size
  none_ : A = none → n = 0 ∧ c = 0
  le : n ≤ c
  low : ∀ a, A = some a → 0 < n → a.block < B
  cell : ∀ a, A = some a → ∀ j u, xs[j]? = some u → w.cell? (a.add j) = some u

theorem add_block (a : Addr) (n : Nat) : (a.add n).block = a.block := by unfold Addr.add; split <;> rfl

theorem RdS.pos {w : World} {B size n c : Nat} {A : Option Addr} {xs : List Value} (h : RdS w B size A n c xs) {j : Nat} {u : Value} (hu : xs[j]? = some u) : 0 < n := by
  have h1 : j < xs.length := by
    rcases Nat.lt_or_ge j xs.length with h1 | h1
    · exact h1
    · rw [List.getElem?_eq_none h1] at hu
      cases hu
  rcases Nat.eq_zero_or_pos n with h0 | h0
  · rw [h.len, h0] at h1
    omega
  · exact h0

theorem RdS.keep {w w' : World} {B size n c : Nat} {A : Option Addr} {xs : List Value} (h : RdS w B size A n c xs) (hk : ∀ p : Addr, p.block < B → w'.cell? p = w.cell? p) : RdS w' B size A n c xs :=
  ⟨h.len, h.none_, h.le, h.low, fun a ha j u hu => (hk _ (by rw [add_block]; exact h.low a ha (h.pos hu))).trans (h.cell a ha j u hu)⟩
theorem RdS.below {w w' : World} {B size n c : Nat} {A : Option Addr} {xs : List Value} (h : RdS w B size A n c xs) (hb : Below B w w') : RdS w' B size A n c xs := h.keep fun _ hp => hb.cell hp


theorem RdS.up {w w' : World} {B B' size n c : Nat} {A : Option Addr} {xs : List Value} (h : RdS w B size A n c xs) (hb : Below B w w') (hB : B ≤ B') : RdS w' B' size A n c xs :=
  have h' := h.below hb
  ⟨h'.len, h'.none_, h'.le, fun a ha hn => Nat.lt_of_lt_of_le (h'.low a ha hn) hB, h'.cell⟩

/-- A row of the call's own reads as what it holds. -/
theorem RdS.of_own {w : World} {base size n : Nat} {e : TypeId} {v : Value} {xs : List Value} (h : w.ownsRow base e size v n xs) : ∃ A c, v = .slice A n c ∧ RdS w w.heap.size size A n c xs := by
  rcases h.2 with ⟨rfl, rfl⟩ | ⟨g, cap, cur, rfl, hb, hg, hnc, hcm, hcs, ht⟩
  · exact ⟨none, 0, rfl, ⟨h.1, fun _ => ⟨rfl, rfl⟩, Nat.le_refl _, fun a ha => (by cases ha), fun a ha => (by cases ha)⟩⟩
  · refine ⟨_, cap, rfl, ⟨h.1, fun e => (by cases e), hnc, fun a ha _ => ?_, fun a ha j u hu => ?_⟩⟩
    · obtain rfl := Option.some.inj ha
      exact (h.lt g rfl).2
    · obtain rfl := Option.some.inj ha
      exact h.cells (g := g) rfl j u hu

/-- A new block reads as the slice over all of it. -/
theorem RdS.of_new {cs : Array Value} {t : TypeId} (w : World) {n size : Nat} (hn : cs.toList.length = n * size) : RdS (w.alloc (.cells cs t)) (w.heap.size + 1) size (some ⟨w.heap.size, 0, none⟩) n n cs.toList :=
  ⟨hn, fun e => (by cases e), Nat.le_refl _, fun a ha _ => (by obtain rfl := Option.some.inj ha; simp), fun a ha => (by obtain rfl := Option.some.inj ha; exact World.news_of_block (fr := (0, 0)) (heap_alloc_new w _))⟩

theorem RdS.new_ {w : World} {cs : Array Value} {t : TypeId} {n size g B : Nat} {xs : List Value} (hg : g = w.heap.size) (hB : g < B) (hx : xs = cs.toList) (hn : xs.length = n * size) : RdS (w.alloc (.cells cs t)) B size (some ⟨g, 0, none⟩) n n xs := by
  subst hg hx
  have h := RdS.of_new (t := t) w hn
  exact ⟨h.len, h.none_, h.le, fun a ha _ => (by obtain rfl := Option.some.inj ha; exact hB), h.cell⟩

/-- A new block is a row of the call's own, all of it. -/
theorem own_new {w : World} {e : TypeId} {base size g n : Nat} {cs : Array Value} {xs : List Value} (hg : g = w.heap.size) (hb : base ≤ g) (hm : n ≤ maxLen) (hs : cs.size = n * size) (hx : xs = cs.toList) :
    (w.alloc (.cells cs e)).ownsRow base e size (.slice (some ⟨g, 0, none⟩) n n) n xs := by
  subst hg hx
  exact World.ownsRow_lit w cs n hb hm hs

theorem wpList_append_rds {P : Program} {w : World} {ops : Array Oper} {rest : List Oper} {o : Oper} {a : Act} {Q : Exit → Act → World → Prop} (hgd : o.guard = none) (s x : Operand) (t : TypeId)
    (ho : o.op = .call { callee := .builtin .append, args := #[s, x], argTypes := #[t, t] })
    (base : Nat) (e : TypeId) (i : TypeInfo) (z : Value) (size bytes : Nat) (ht : P.underlying t = some (.slice e)) (hi : P.info? e = some i) (hz : i.zero = some z)
    (hsize : i.size = size) (hby : i.bytes = bytes) (hzs : z.cells.size = size) (hsz : 0 < size)
    (v : Value) (n : Nat) (xs : List Value) (hs : a.eval s = v) (hown : w.ownsRow base e size v n xs)
    (B : Nat) (A : Option Addr) (m c : Nat) (news : List Value) (hx : a.eval x = .slice A m c) (hr : RdS w B size A m c news) (h1 : ∀ u ∈ news, u.oneCell' = true)
    (h63 : n + m ≤ maxLen) (hbytes : (n + m) * bytes ≤ 140737488355328) (hbase : base ≤ w.heap.size)
    (h : ∀ v' w', w'.ownsRow base e size v' (n + m) (xs ++ news) → w.grownBy w' v.ownBlock → (v'.ownBlock = v.ownBlock ∨ v'.ownBlock = some w.heap.size) → wpList P ops Q rest (a.put o.dst v') w') :
    wpList P ops Q (o :: rest) a w := by
  cases A with
  | none =>
    obtain ⟨rfl, rfl⟩ := hr.none_ rfl
    have hnil : news = [] := List.eq_nil_of_length_eq_zero (by simpa using hr.len)
    subst hnil
    exact wpList_append_own_none hgd s x t ho base e i size ht hi v n xs hs hown hx (h v w (by simpa using hown) (World.grownBy.refl w _) (.inl rfl))
  | some ad =>
    exact wpList_append_own_at w hgd s x t ho base e i z size bytes ht hi hz hsize hby hzs hsz v n xs hs hown ad m c news hx hr.len (hr.cell ad rfl) h1 h63 hbytes hbase fun v' w' a1 a2 _ a4 => h v' w' a1 a2 a4

/-- The string of these bytes. -/
def strB (bs : List Int) : ByteArray := bs.foldl (fun r n => r.push (UInt8.ofNat n.toNat)) ByteArray.empty

theorem conv_rds {P : Program} {w : World} {B n c : Nat} {A : Option Addr} {bs : List Int} {src dst e : TypeId} (hs : P.underlying src = some (.slice e)) (he : P.underlying e = some (.int .u8)) (hd : P.underlying dst = some .string)
    (h : RdS w B 1 A n c (bytesV bs)) : (convert src dst (.slice A n c)).run P w = .ok (.string (strB bs)) w := by
  have hl : bs.length = n := by simpa [bytesV] using h.len
  cases A with
  | none =>
    obtain ⟨rfl, rfl⟩ := h.none_ rfl
    obtain rfl : bs = [] := List.eq_nil_of_length_eq_zero hl
    exact run_convert_bytes_nil w src e hs he 0 0 dst hd
  | some a =>
    rw [run_convert_bytes_string w src dst e (some a) n c hs he hd]
    have hld := run_loadCells_list (P := P) w a (bytesV bs) (fun j v hj => h.cell a rfl j v hj)
    have hlen : (bytesV bs).length = n := by simp [bytesV, hl]
    rw [hlen] at hld
    exact run_bytesToString w a n c bs hld
end Go.Proofs.Ythfngmlnmpbcpaa
