/- A receiver in memory: what is held, as a list; New, Got. -/
import Derived.Test.YthfngmlnmpbcpaaSw
import Derived.Test.YthfngmlnmpbcpaaMap1
namespace Go.Proofs.Ythfngmlnmpbcpaa
open Go.RowKit Go.Maps
set_option linter.unusedSimpArgs false
set_option linter.unusedVariables false

/-- Bytes lie where a slice says. -/
structure Lies (w : World) (e : Sl) (L : List Nat) : Prop where
  len : e.2.1 = L.length
  row : RdS w w.heap.size 1 e.1 L.length e.2.2 (rowsV f8 L)
  b256 : ∀ b ∈ L, b < 256
  l60 : L.length ≤ 60
/-- .. and not in block b. -/
def Off (e : Sl) (b : Nat) : Prop := ∀ a, e.1 = some a → 0 < e.2.1 → a.block ≠ b
theorem Lies.keep {S : Nat → Prop} {w w' : World} {e : Sl} {L : List Nat} (h : Lies w e L) (hk : Kept S w w') (hS : ∀ b, S b → Off e b) : Lies w' e L :=
  ⟨h.len, h.row.kept_ne hk (fun a ha hn e' => hS _ e' a ha (by rw [h.len]; exact hn) rfl), h.b256, h.l60⟩
theorem Lies.below {w w' : World} {e : Sl} {L : List Nat} (h : Lies w e L) (hb : Below w.heap.size w w') : Lies w' e L := h.keep (S := fun _ => False) (Kept.of_below hb) (fun _ e => e.elim)
theorem Lies.fresh {w : World} {e : Sl} {L : List Nat} (h : Lies w e L) {b : Nat} (hb : w.heap.size ≤ b) : Off e b := fun a ha hn e' => by have := h.row.low a ha (by rw [← h.len]; exact hn); omega
/-- What is held: its number, where it lies, its bytes. -/
abbrev HE := Nat × Sl × List Nat
abbrev nilS : Value := .slice none 0 0
structure RvIn (B : Nat) (w : World) (g win got bm n : Nat) (D : DataW Value) (HL : List HE) : Prop where
  box : Whole w g 69 [.int .i64 (win : Int), .int .i64 (got : Int), .map (some bm)]
  lo : B ≤ g
  blo : B ≤ bm
  ne : bm ≠ g
  map : MapIn w Try.prog 3 bm n D
  has_ : ∀ x : Int, has D (.int .i64 x) = true ↔ ∃ e ∈ HL, (e.1 : Int) = x
  at_ : ∀ e ∈ HL, D.atKey (.int .i64 (e.1 : Int)) (.held nilS) = .held (.slice e.2.1.1 e.2.1.2.1 e.2.1.2.2)
  each : ∀ e ∈ HL, Lies w e.2.1 e.2.2 ∧ Off e.2.1 g ∧ Off e.2.1 bm
  rise : HL.Pairwise (fun p q => p.1 < q.1)
  gt : ∀ e ∈ HL, got < e.1
  le : ∀ e ∈ HL, e.1 ≤ got + win
/-- A block that is none of the receiver's. -/
structure RvFar (g bm : Nat) (HL : List HE) (b : Nat) : Prop where
  g_ : b ≠ g
  m_ : b ≠ bm
  each : ∀ e ∈ HL, Off e.2.1 b
theorem RvIn.keep {S : Nat → Prop} {B : Nat} {w w' : World} {g win got bm n : Nat} {D : DataW Value} {HL : List HE} (h : RvIn B w g win got bm n D HL) (hk : Kept S w w') (hf : ∀ b, S b → RvFar g bm HL b) : RvIn B w' g win got bm n D HL :=
  ⟨hk.whole h.box (fun e => (hf g e).g_ rfl), h.lo, h.blo, h.ne, h.map.kept hk (fun e => (hf bm e).m_ rfl), h.has_, h.at_, fun e he => ⟨(h.each e he).1.keep hk (fun b hb => (hf b hb).each e he), (h.each e he).2⟩, h.rise, h.gt, h.le⟩
theorem RvIn.below {B : Nat} {w w' : World} {g win got bm n : Nat} {D : DataW Value} {HL : List HE} (h : RvIn B w g win got bm n D HL) (hb : Below w.heap.size w w') : RvIn B w' g win got bm n D HL :=
  h.keep (S := fun _ => False) (Kept.of_below hb) (fun _ e => e.elim)
theorem RvIn.drew {B : Nat} {w : World} {g win got bm n : Nat} {D : DataW Value} {HL : List HE} (h : RvIn B w g win got bm n D HL) : RvIn B w.drew g win got bm n D HL := h.below ((Below.refl _ _).drew)
theorem RvIn.fresh {B : Nat} {w : World} {g win got bm n : Nat} {D : DataW Value} {HL : List HE} (h : RvIn B w g win got bm n D HL) {b : Nat} (hb : w.heap.size ≤ b) : RvFar g bm HL b :=
  ⟨by have := h.box.lt; omega, by have := h.map.lt; omega, fun e he => (h.each e he).1.fresh hb⟩
theorem RvIn.far {B : Nat} {w w' : World} {g win got bm n : Nat} {D : DataW Value} {HL : List HE} (h : RvIn B w g win got bm n D HL) (hk : Kept (fun b => b = g ∨ b = bm) w w') (hB : B ≤ w.heap.size) : Below B w w' :=
  hk.below hB (fun i hi e => by rcases e with e | e; have := h.lo; omega; have := h.blo; omega)
theorem RvIn.lower {B B' : Nat} {w : World} {g win got bm n : Nat} {D : DataW Value} {HL : List HE} (h : RvIn B w g win got bm n D HL) (hB : B' ≤ B) : RvIn B' w g win got bm n D HL :=
  ⟨h.box, Nat.le_trans hB h.lo, Nat.le_trans hB h.blo, h.ne, h.map, h.has_, h.at_, h.each, h.rise, h.gt, h.le⟩
/-- What is in its turn: how far it got; what is told; what is left. -/
def drain : Nat → List HE → Nat × List HE × List HE
  | got, [] => (got, [], [])
  | got, e :: r => if e.1 = got + 1 then ((drain (got + 1) r).1, e :: (drain (got + 1) r).2.1, (drain (got + 1) r).2.2) else (got, [], e :: r)
theorem drain_hit {got : Nat} {e : HE} {r : List HE} (h : e.1 = got + 1) : drain got (e :: r) = ((drain (got + 1) r).1, e :: (drain (got + 1) r).2.1, (drain (got + 1) r).2.2) := by rw [drain, if_pos h]
theorem drain_miss {got : Nat} {HL : List HE} (h : ∀ e ∈ HL, e.1 ≠ got + 1) : drain got HL = (got, [], HL) := by
  cases HL with
  | nil => rfl
  | cons e r => rw [drain, if_neg (h e (by simp))]
def insH (x : HE) : List HE → List HE
  | [] => [x]
  | e :: r => if x.1 < e.1 then x :: e :: r else e :: insH x r
theorem mem_insH {x y : HE} : ∀ {l : List HE}, y ∈ insH x l ↔ y = x ∨ y ∈ l
  | [] => by simp [insH]
  | e :: r => by
    unfold insH
    split
    · simp
    · rw [List.mem_cons, mem_insH, List.mem_cons]
      constructor
      · rintro (h | h | h)
        · exact .inr (.inl h)
        · exact .inl h
        · exact .inr (.inr h)
      · rintro (h | h | h)
        · exact .inr (.inl h)
        · exact .inl h
        · exact .inr (.inr h)
theorem rise_insH {x : HE} : ∀ {l : List HE}, l.Pairwise (fun p q => p.1 < q.1) → (∀ e ∈ l, e.1 ≠ x.1) → (insH x l).Pairwise (fun p q => p.1 < q.1)
  | [], _, _ => by simp [insH]
  | e :: r, h, hn => by
    obtain ⟨h1, h2⟩ := List.pairwise_cons.1 h
    unfold insH
    split
    · rename_i hlt
      refine List.pairwise_cons.2 ⟨fun y hy => ?_, h⟩
      rcases List.mem_cons.1 hy with rfl | hy
      · exact hlt
      · have := h1 y hy; omega
    · rename_i hlt
      refine List.pairwise_cons.2 ⟨fun y hy => ?_, rise_insH h2 (fun e he => hn e (by simp [he]))⟩
      rcases mem_insH.1 hy with rfl | hy
      · have := hn e (by simp); omega
      · exact h1 y hy
/-- Either the first one is next, or none is. -/
theorem next_or {got : Nat} {HL : List HE} (hr : HL.Pairwise (fun p q => p.1 < q.1)) (hg : ∀ e ∈ HL, got < e.1) : (∃ e r, HL = e :: r ∧ e.1 = got + 1) ∨ (∀ e ∈ HL, e.1 ≠ got + 1) := by
  cases HL with
  | nil => exact .inr (by simp)
  | cons e r =>
    by_cases h : e.1 = got + 1
    · exact .inl ⟨e, r, rfl, h⟩
    · refine .inr (fun y hy => ?_)
      have h2 := hg e (by simp)
      rcases List.mem_cons.1 hy with rfl | hy
      · exact h
      · have := (List.pairwise_cons.1 hr).1 y hy; omega
theorem mem_drain {x : HE} : ∀ {l : List HE} {got : Nat}, x ∈ (drain got l).2.1 ∨ x ∈ (drain got l).2.2 → x ∈ l
  | [], got, h => by simp [drain] at h
  | e :: r, got, h => by
    rw [drain] at h
    split at h
    · simp only [List.mem_cons] at h ⊢
      rcases h with (h | h) | h
      · exact .inl h
      · exact .inr (mem_drain (.inl h))
      · exact .inr (mem_drain (.inr h))
    · simpa using h
theorem drain_got : ∀ {l : List HE} {got : Nat}, (drain got l).1 = got + (drain got l).2.1.length
  | [], got => rfl
  | e :: r, got => by
    rw [drain]
    split
    · show (drain (got + 1) r).1 = got + ((drain (got + 1) r).2.1.length + 1)
      rw [drain_got]; omega
    · rfl
theorem drain_split : ∀ {l : List HE} {got : Nat}, l = (drain got l).2.1 ++ (drain got l).2.2
  | [], got => rfl
  | e :: r, got => by
    rw [drain]
    split
    · show e :: r = e :: ((drain (got + 1) r).2.1 ++ (drain (got + 1) r).2.2)
      rw [← drain_split]
    · rfl
/-- What is left is not next. -/
theorem drain_left : ∀ {l : List HE} {got : Nat}, l.Pairwise (fun p q => p.1 < q.1) → (∀ e ∈ l, got < e.1) → ∀ e ∈ (drain got l).2.2, (drain got l).1 + 1 < e.1
  | [], got, _, _ => by simp [drain]
  | e :: r, got, h, hg => by
    rw [drain]
    obtain ⟨h1, h2⟩ := List.pairwise_cons.1 h
    split
    · rename_i he
      exact drain_left h2 (fun y hy => by have := h1 y hy; omega)
    · rename_i he
      have h3 := hg e (by simp)
      intro y hy
      show got + 1 < y.1
      rcases List.mem_cons.1 hy with rfl | hy
      · omega
      · have := h1 y hy; omega
/-- What is told are the next ones. -/
theorem drain_told : ∀ {l : List HE} {got i : Nat} {e : HE}, (drain got l).2.1[i]? = some e → e.1 = got + 1 + i
  | [], got, i, e, h => by simp [drain] at h
  | x :: r, got, i, e, h => by
    rw [drain] at h
    split at h
    · rename_i hx
      cases i with
      | zero => simp at h; rw [← h, hx]
      | succ i =>
        have h2 : (drain (got + 1) r).2.1[i]? = some e := by simpa using h
        have := drain_told h2
        omega
    · simp at h
/-- Numbers that rise within a window are no more than it is wide. -/
theorem rise_len : ∀ {l : List HE} {lo hi : Nat}, l.Pairwise (fun p q => p.1 < q.1) → (∀ e ∈ l, lo < e.1 ∧ e.1 ≤ hi) → l.length ≤ hi - lo
  | [], _, _, _, _ => Nat.zero_le _
  | e :: r, lo, hi, h, hb => by
    obtain ⟨h1, h2⟩ := List.pairwise_cons.1 h
    have h3 := hb e (by simp)
    have h4 := rise_len (lo := e.1) (hi := hi) h2 (fun y hy => ⟨h1 y hy, (hb y (by simp [hy])).2⟩)
    show r.length + 1 ≤ _
    omega
theorem RvIn.count {B : Nat} {w : World} {g win got bm n : Nat} {D : DataW Value} {HL : List HE} (h : RvIn B w g win got bm n D HL) : HL.length ≤ win := by
  have := rise_len (lo := got) (hi := got + win) h.rise (fun e he => ⟨h.gt e he, h.le e he⟩)
  omega
/-- One more is held. -/
theorem RvIn.put {B : Nat} {w w' : World} {g win got bm n : Nat} {D : DataW Value} {HL : List HE} (h : RvIn B w g win got bm n D HL) {s : Nat} {sl : Sl} {L : List Nat} (hs : got < s) (hw : s ≤ got + win) (hn : ∀ e ∈ HL, e.1 ≠ s) (hL : Lies w sl L) (ho : Off sl g ∧ Off sl bm)
    (hm : MapIn w' Try.prog 3 bm (n + 1) (D.put (.int .i64 (s : Int)) (.held (.slice sl.1 sl.2.1 sl.2.2)))) (hk : Kept (fun i => i = bm) w w') : RvIn B w' g win got bm (n + 1) (D.put (.int .i64 (s : Int)) (.held (.slice sl.1 sl.2.1 sl.2.2))) (insH (s, sl, L) HL) := by
  have hD := h.map.isMap
  refine ⟨hk.whole h.box (fun e => h.ne e.symm), h.lo, h.blo, h.ne, hm, fun x => ?_, fun e he => ?_, fun e he => ?_, rise_insH h.rise hn, fun e he => ?_, fun e he => ?_⟩
  · by_cases hx : x = (s : Int)
    · subst hx
      rw [has_put_same hD (show WideAt.IsKeyLit (.int .i64 _) from trivial)]
      exact ⟨fun _ => ⟨(s, sl, L), mem_insH.2 (.inl rfl), rfl⟩, fun _ => rfl⟩
    · rw [has_put_other (by simpa using hx), h.has_ x]
      constructor
      · rintro ⟨e, he, rfl⟩; exact ⟨e, mem_insH.2 (.inr he), rfl⟩
      · rintro ⟨e, he, rfl⟩
        rcases mem_insH.1 he with rfl | he
        · exact absurd rfl hx
        · exact ⟨e, he, rfl⟩
  · rcases mem_insH.1 he with rfl | he
    · exact atKey_put_same hD (show WideAt.IsKeyLit (.int .i64 _) from trivial) _ _
    · have h1 := hn e he
      rw [atKey_put_other (by simpa using (fun e' => h1 (by omega) : ¬ (e.1 : Int) = (s : Int)))]
      exact h.at_ e he
  · rcases mem_insH.1 he with rfl | he
    · exact ⟨hL.keep hk (fun b hb => by have hb' : b = bm := hb; rw [hb']; exact ho.2), ho⟩
    · exact ⟨(h.each e he).1.keep hk (fun b hb => by have hb' : b = bm := hb; rw [hb']; exact (h.each e he).2.2), (h.each e he).2⟩
  · rcases mem_insH.1 he with rfl | he
    · exact hs
    · exact h.gt e he
  · rcases mem_insH.1 he with rfl | he
    · exact hw
    · exact h.le e he
/-- The next one is got: it is not held any more. -/
theorem RvIn.take {B : Nat} {w w' : World} {g win got bm n : Nat} {D : DataW Value} {e : HE} {r : List HE} (h : RvIn B w g win got bm n D (e :: r)) (he : e.1 = got + 1) (hb : Whole w' g 69 [.int .i64 (win : Int), .int .i64 ((got : Int) + 1), .map (some bm)])
    (hm : MapIn w' Try.prog 3 bm n (D.del (.int .i64 ((got : Int) + 1)))) (hk : Kept (fun i => i = g ∨ i = bm) w w') : RvIn B w' g win (got + 1) bm n (D.del (.int .i64 ((got : Int) + 1))) r := by
  obtain ⟨h1, h2⟩ := List.pairwise_cons.1 h.rise
  refine ⟨by rw [show ((got + 1 : Nat) : Int) = (got : Int) + 1 by omega]; exact hb, h.lo, h.blo, h.ne, hm, fun x => ?_, fun y hy => ?_, fun y hy => ?_, h2, fun y hy => ?_, fun y hy => ?_⟩
  · by_cases hx : x = (got : Int) + 1
    · subst hx
      rw [has_del_same]
      refine ⟨fun h => (by cases h), ?_⟩
      rintro ⟨y, hy, hyx⟩
      have := h1 y hy
      omega
    · rw [has_del_other (by simpa using hx), h.has_ x]
      constructor
      · rintro ⟨y, hy, rfl⟩
        rcases List.mem_cons.1 hy with rfl | hy
        · exact absurd (by omega) hx
        · exact ⟨y, hy, rfl⟩
      · rintro ⟨y, hy, rfl⟩; exact ⟨y, by simp [hy], rfl⟩
  · have h3 := h1 y hy
    rw [atKey_del_other (by simpa using (fun e' => by omega : ¬ (y.1 : Int) = (got : Int) + 1))]
    exact h.at_ y (by simp [hy])
  · obtain ⟨q1, q2, q3⟩ := h.each y (by simp [hy])
    exact ⟨q1.keep hk (fun b hb => by rcases hb with hb | hb; rw [hb]; exact q2; rw [hb]; exact q3), q2, q3⟩
  · have := h1 y hy; omega
  · have := h.le y (by simp [hy]); omega

set_option maxRecDepth 100000 in
theorem rv_new (x : Int) (w : World) : Calls Try.prog 25 #[.int .i64 x] w fun e w' => ∃ g win bm : Nat, e = .returned (.pointer (some ⟨g, 0, none⟩)) ∧ (win : Int) = min (max x 1) 64 ∧ RvIn w.heap.size w' g win 0 bm 0 (.map []) [] ∧ Below w.heap.size w w' := by
  obtain ⟨win, hw⟩ : ∃ win : Nat, (win : Int) = min (max x 1) 64 := ⟨(min (max x 1) 64).toNat, by omega⟩
  have Hw := Lib.hid hw
  clear hw
  have hmm := @run_makeMap Try.prog
  go_enter Try.func25, Try.ntmps25
  go_wp2
  go_ret
  have hM : MapIn (w.alloc (.map #[] 0)) Try.prog 3 w.heap.size 0 (.map []) := MapIn.made
  have hB := Whole.new_ (w.alloc (.map #[] 0)) 69 [.int .i64 (min (max x 1) 64), .int .i64 0, .map (some w.heap.size)]
  rw [← Hw.out] at hB ⊢
  have hs : (w.alloc (.map #[] 0)).heap.size = w.heap.size + 1 := by simp
  refine ⟨_, win, w.heap.size, rfl, rfl, ⟨(by rw [hs] at hB; exact hB), by omega, Nat.le_refl _, by omega, hM.below (below1 _ _), fun x => ?_, fun e he => (by cases he), fun e he => (by cases he), List.Pairwise.nil, fun e he => (by cases he), fun e he => (by cases he)⟩, below2 _ _ _⟩
  simp [has]
set_option maxRecDepth 100000 in
theorem rv_got {B : Nat} {g win got bm n : Nat} {D : DataW Value} {HL : List HE} (w : World) (h : RvIn B w g win got bm n D HL) : Calls Try.prog 34 #[.pointer (some ⟨g, 0, none⟩)] w fun e w' => e = .returned (.int .i64 (got : Int)) ∧ Below w.heap.size w w' := by
  have l1 := h.box.cell (i := 1) rfl
  clear h
  go_enter Try.func34, Try.ntmps34
  go_wp2
  go_ret
  exact ⟨rfl, Below.refl _ _⟩
end Go.Proofs.Ythfngmlnmpbcpaa
