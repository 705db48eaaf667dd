/- The document's own receiver: New, Seqs, Take. -/
import Derived.Test.YthfngmlnmpbcpaaRv9
import Derived.Test.YthfngmlnmpbcpaaSl2
namespace Go.Proofs.Ythfngmlnmpbcpaa
open Go.RowKit Go.Maps
set_option linter.unusedSimpArgs false
set_option linter.unusedVariables false

def hC (e : HE) : List Value := [.int .i64 (e.1 : Int), .slice e.2.1.1 e.2.1.2.1 e.2.1.2.2]
theorem hC_len (e : HE) : (hC e).length = 2 := rfl
theorem hC_all (l : List HE) : ∀ u ∈ rowsV hC l, u.oneCell' = true := rowsV_one hC (by intro e; simp [hC, Value.oneCell']) l
theorem info_h : (Try.prog.info? 70).map (fun i => (i.zero, i.size, i.bytes)) = some (some (.agg #[.int .i64 0, .slice none 0 0]), 2, 32) := by kernel_rfl
/-- The document's receiver at block g: what is held, as a row. -/
structure QrIn (w : World) (g win got : Nat) (QL : List HE) (A : Option Addr) (c : Nat) : Prop where
  box : Whole w g 57 [.int .i64 (win : Int), .int .i64 (got : Int), .slice A QL.length c]
  row : RdS w w.heap.size 2 A QL.length c (rowsV hC QL)
  rne : ∀ a, A = some a → 0 < QL.length → a.block ≠ g
  each : ∀ e ∈ QL, Lies w e.2.1 e.2.2 ∧ Off e.2.1 g
  rise : QL.Pairwise (fun p q => p.1 < q.1)
  gt : ∀ e ∈ QL, got < e.1
theorem QrIn.keep {S : Nat → Prop} {w w' : World} {g win got c : Nat} {QL : List HE} {A : Option Addr} (h : QrIn w g win got QL A c) (hk : Kept S w w') (hg : ¬ S g) (hr : ∀ a, A = some a → 0 < QL.length → ¬ S a.block) (he : ∀ e ∈ QL, ∀ b, S b → Off e.2.1 b) : QrIn w' g win got QL A c :=
  ⟨hk.whole h.box hg, h.row.kept_ne hk hr, h.rne, fun e hm => ⟨(h.each e hm).1.keep hk (he e hm), (h.each e hm).2⟩, h.rise, h.gt⟩
theorem QrIn.below {w w' : World} {g win got c : Nat} {QL : List HE} {A : Option Addr} (h : QrIn w g win got QL A c) (hb : Below w.heap.size w w') : QrIn w' g win got QL A c :=
  h.keep (S := fun _ => False) (Kept.of_below hb) (fun e => e) (fun _ _ _ e => e) (fun _ _ _ e => e.elim)
set_option maxRecDepth 100000 in
theorem rw_new (x : Int) (w : World) : Calls Try.prog 26 #[.int .i64 x] w fun e w' => ∃ g win : Nat, e = .returned (.pointer (some ⟨g, 0, none⟩)) ∧ (win : Int) = min (max x 1) 64 ∧ w.heap.size ≤ g ∧ QrIn w' g win 0 [] none 0 ∧ Below w.heap.size w w' := by
  obtain ⟨win, hw⟩ : ∃ win : Nat, (win : Int) = min (max x 1) 64 := ⟨(min (max x 1) 64).toNat, by omega⟩
  have Hw := Lib.hid hw
  clear hw
  go_enter Try.func26, Try.ntmps26
  go_wp2
  go_ret
  have hB := Whole.new_ w 57 [.int .i64 (min (max x 1) 64), .int .i64 0, .slice none 0 0]
  rw [← Hw.out] at hB ⊢
  exact ⟨_, win, rfl, rfl, Nat.le_refl _, ⟨hB, rds_nil _ _ _, fun a ha => (by cases ha), fun e he => (by cases he), List.Pairwise.nil, fun e he => (by cases he)⟩, below1 _ _⟩
theorem insH_put {x e : HE} : ∀ {l : List HE}, (∃ y ∈ l, x.1 < y.1) → insH x (l ++ [e]) = insH x l ++ [e]
  | [], h => by obtain ⟨y, hy, _⟩ := h; cases hy
  | z :: r, h => by
    by_cases hz : x.1 < z.1
    · show (if x.1 < z.1 then x :: z :: (r ++ [e]) else z :: insH x (r ++ [e])) = (if x.1 < z.1 then x :: z :: r else z :: insH x r) ++ [e]
      rw [if_pos hz, if_pos hz]; rfl
    · have h2 : ∃ y ∈ r, x.1 < y.1 := by
        obtain ⟨y, hy, h3⟩ := h
        rcases List.mem_cons.1 hy with rfl | hy
        · exact absurd h3 hz
        · exact ⟨y, hy, h3⟩
      show (if x.1 < z.1 then x :: z :: (r ++ [e]) else z :: insH x (r ++ [e])) = (if x.1 < z.1 then x :: z :: r else z :: insH x r) ++ [e]
      rw [if_neg hz, if_neg hz, insH_put h2]; rfl
theorem insH_end {x : HE} : ∀ {l : List HE}, (∀ y ∈ l, y.1 < x.1) → insH x l = l ++ [x]
  | [], _ => rfl
  | z :: r, h => by
    show (if x.1 < z.1 then x :: z :: r else z :: insH x r) = z :: (r ++ [x])
    rw [if_neg (by have := h z (by simp); omega), insH_end (fun y hy => h y (by simp [hy]))]
theorem insH_new {x e : HE} : ∀ {l : List HE}, (∀ y ∈ l, y.1 < x.1) → x.1 < e.1 → insH x (l ++ [e]) = l ++ [x] ++ [e]
  | [], _, he => by
    show (if x.1 < e.1 then x :: e :: [] else e :: insH x []) = _
    rw [if_pos he]; rfl
  | z :: r, h, he => by
    show (if x.1 < z.1 then x :: z :: (r ++ [e]) else z :: insH x (r ++ [e])) = z :: (r ++ [x] ++ [e])
    rw [if_neg (by have := h z (by simp); omega), insH_new (fun y hy => h y (by simp [hy])) he]
/-- The row that is next, under way: i were looked at. -/
structure NxIn (w wr : World) (QL : List HE) (s i : Nat) (L : List Nat) (put : Bool) (v : Value) (NL : List HE) (sl : Sl) : Prop where
  ow : Ow w w.heap.size 70 2 v NL.length (rowsV hC NL) wr
  eq : NL = if put = true then insH (s, sl, L) (QL.take i) else QL.take i
  np : put = false → ∀ e ∈ QL.take i, e.1 < s
  pp : put = true → (∃ y ∈ QL.take i, s < y.1) ∧ Lies wr sl L ∧ (∀ b, b < w.heap.size → Off sl b) ∧ ∀ b, v.ownBlock = some b → Off sl b
  ns : ∀ e ∈ QL.take i, e.1 ≠ s
theorem NxIn.len {w wr : World} {QL : List HE} {s i : Nat} {L : List Nat} {put : Bool} {v : Value} {NL : List HE} {sl : Sl} (h : NxIn w wr QL s i L put v NL sl) : NL.length ≤ QL.length + 1 := by
  have h3 : ∀ (l : List HE) (x : HE), (insH x l).length = l.length + 1 := fun l => by
    induction l with
    | nil => intro x; rfl
    | cons e r ih => intro x; unfold insH; split <;> simp [ih]
  rw [h.eq]
  split
  · rw [h3, List.length_take]; omega
  · rw [List.length_take]; omega
/-- One entry more behind the row. -/
theorem nx_app {w W : World} {v : Value} {NL : List HE} (h : Ow w w.heap.size 70 2 v NL.length (rowsV hC NL) W) (hn : NL.length ≤ 1000) (e : HE) (ty : TypeId) :
    ∃ v' W', (Builtin.append_ #[55, 55] ty #[v, .slice (some ⟨W.heap.size, 0, none⟩) 1 1]).run Try.prog (W.alloc (.cells #[.int .i64 (e.1 : Int), .slice e.2.1.1 e.2.1.2.1 e.2.1.2.2] 70)) = .ok v' W' ∧ Ow w w.heap.size 70 2 v' (NL ++ [e]).length (rowsV hC (NL ++ [e])) W' ∧ Kept (fun b => some b = v.ownBlock) W W' ∧ (v'.ownBlock = v.ownBlock ∨ ∃ b, v'.ownBlock = some b ∧ W.heap.size ≤ b) := by
  obtain ⟨i0, hi, hz0, hz1, hz2⟩ := info_parts_ info_h
  have hal : Below W.heap.size W (W.alloc (.cells #[.int .i64 (e.1 : Int), .slice e.2.1.1 e.2.1.2.1 e.2.1.2.2] 70)) := below1 _ _
  have hR : RdS (W.alloc (.cells #[.int .i64 (e.1 : Int), .slice e.2.1.1 e.2.1.2.1 e.2.1.2.2] 70)) (W.alloc (.cells #[.int .i64 (e.1 : Int), .slice e.2.1.1 e.2.1.2.1 e.2.1.2.2] 70)).heap.size 2 (some ⟨W.heap.size, 0, none⟩) 1 1 (rowsV hC [e]) := RdS.of_whole (size := 2) (n := 1) (Whole.new_ W 70 [.int .i64 (e.1 : Int), .slice e.2.1.1 e.2.1.2.1 e.2.1.2.2]) rfl
  obtain ⟨v', W', hrun, hO, hb, hg, hbk⟩ := Ow.app2 (P := Try.prog) 55 ty 70 i0 _ 2 32 w.heap.size Try.underlying55 hi hz0 hz1 hz2 rfl (by decide) _ _ _ (h.up hal) _ _ 1 1 _ hR (hC_all _) (by unfold maxLen; omega) (by omega)
  rw [← rowsV_app] at hO
  have hsz : (W.alloc (.cells #[.int .i64 (e.1 : Int), .slice e.2.1.1 e.2.1.2.1 e.2.1.2.2] 70)).heap.size = W.heap.size + 1 := by simp
  refine ⟨v', W', hrun, by rw [List.length_append]; exact hO, (Kept.of_below hal).trans ⟨hg.os, hg.tape, hg.output, hg.size, fun i hi hne => hg.block i hi hne⟩, ?_⟩
  rcases hbk with e' | e'
  · exact .inl e'
  · exact .inr ⟨_, e', by omega⟩
/-- The next one is taken over. -/
theorem NxIn.over {w wr : World} {QL : List HE} {s i : Nat} {L : List Nat} {put : Bool} {v : Value} {NL : List HE} {sl : Sl} (h : NxIn w wr QL s i L put v NL sl) (hQ : QL.length ≤ 500) {e : HE} (he : QL[i]? = some e) (hes : e.1 ≠ s) (hp : put = true ∨ e.1 < s) (ty : TypeId) :
    ∃ v' W', (Builtin.append_ #[55, 55] ty #[v, .slice (some ⟨wr.heap.size, 0, none⟩) 1 1]).run Try.prog (wr.alloc (.cells #[.int .i64 (e.1 : Int), .slice e.2.1.1 e.2.1.2.1 e.2.1.2.2] 70)) = .ok v' W' ∧ NxIn w W' QL s (i + 1) L put v' (NL ++ [e]) sl := by
  have hl := h.len
  obtain ⟨v', W', hrun, hO, hk, hv⟩ := nx_app h.ow (by omega) e ty
  have htk := take_snoc_ _ _ _ he
  refine ⟨v', W', hrun, hO, ?_, fun h0 => ?_, fun h1 => ?_, fun y hy => ?_⟩
  · rw [h.eq, htk]
    cases put with
    | true =>
      obtain ⟨⟨y, hy, h2⟩, -⟩ := h.pp rfl
      rw [if_pos rfl, if_pos rfl, insH_put ⟨y, hy, h2⟩]
    | false => rfl
  · subst h0
    rcases hp with hp | hp
    · cases hp
    · rw [htk]
      intro y hy
      rcases List.mem_append.1 hy with hy | hy
      · exact h.np rfl y hy
      · obtain rfl : y = e := by simpa using hy
        exact hp
  · obtain ⟨⟨y, hy, h2⟩, q2, q3, q4⟩ := h.pp h1
    refine ⟨⟨y, by rw [htk]; exact List.mem_append.2 (.inl hy), h2⟩, q2.keep hk (fun b hb => q4 b hb.symm), q3, fun b hb => ?_⟩
    rcases hv with e' | ⟨b', e', hle⟩
    · exact q4 b (e'.symm.trans hb)
    · obtain rfl := Option.some.inj (hb.symm.trans e')
      exact q2.fresh hle
  · rw [htk] at hy
    rcases List.mem_append.1 hy with hy | hy
    · exact h.ns y hy
    · obtain rfl : y = e := by simpa using hy
      exact hes
/-- It is put in here, ahead of one that is greater. -/
theorem NxIn.putting {w wr w4 : World} {QL : List HE} {s i : Nat} {L : List Nat} {v : Value} {NL : List HE} {sl sl2 : Sl} (h : NxIn w wr QL s i L false v NL sl) (hQ : QL.length ≤ 500) {e : HE} (he : QL[i]? = some e) (hes : s < e.1) (hx : Ext wr w4) (hL : Lies w4 sl2 L) (ho : ∀ b, b < wr.heap.size → Off sl2 b) (ty : TypeId) :
    ∃ v1 W1, (Builtin.append_ #[55, 55] ty #[v, .slice (some ⟨w4.heap.size, 0, none⟩) 1 1]).run Try.prog (w4.alloc (.cells #[.int .i64 (s : Int), .slice sl2.1 sl2.2.1 sl2.2.2] 70)) = .ok v1 W1 ∧
      ∃ v' W', (Builtin.append_ #[55, 55] ty #[v1, .slice (some ⟨W1.heap.size, 0, none⟩) 1 1]).run Try.prog (W1.alloc (.cells #[.int .i64 (e.1 : Int), .slice e.2.1.1 e.2.1.2.1 e.2.1.2.2] 70)) = .ok v' W' ∧ Below w.heap.size w W1 ∧ NxIn w W' QL s (i + 1) L true v' (NL ++ [(s, sl2, L)] ++ [e]) sl2 := by
  have hl := h.len
  have hb0 := (h.ow.own.lt)
  obtain ⟨v1, W1, hrun1, hO1, hk1, hv1⟩ := nx_app (h.ow.up hx) (by omega) (s, sl2, L) ty
  obtain ⟨v2, W2, hrun2, hO2, hk2, hv2⟩ := nx_app hO1 (by rw [List.length_append]; show NL.length + 1 ≤ _; omega) e ty
  have htk := take_snoc_ _ _ _ he
  have hoff0 : ∀ b, v.ownBlock = some b → Off sl2 b := fun b hb => ho b (hb0 b hb).2
  have hL1 := hL.keep hk1 (fun b hb => hoff0 b hb.symm)
  have hoff1 : ∀ b, v1.ownBlock = some b → Off sl2 b := fun b hb => by
    rcases hv1 with e' | ⟨b', e', hle⟩
    · exact hoff0 b (e'.symm.trans hb)
    · obtain rfl := Option.some.inj (hb.symm.trans e')
      exact hL.fresh hle
  have hL2 := hL1.keep hk2 (fun b hb => hoff1 b hb.symm)
  have hNL : NL = QL.take i := by have := h.eq; simpa using this
  refine ⟨v1, W1, hrun1, v2, W2, hrun2, hO1.below, hO2, ?_, fun h0 => (by cases h0), fun _ => ⟨⟨e, by rw [htk]; simp, hes⟩, hL2, fun b hb => ho b (Nat.lt_of_lt_of_le hb h.ow.hi), fun b hb => ?_⟩, fun y hy => ?_⟩
  · rw [if_pos rfl, htk, insH_new (x := (s, sl2, L)) (fun y hy => h.np rfl y hy) hes, hNL]
  · rcases hv2 with e' | ⟨b', e', hle⟩
    · exact hoff1 b (e'.symm.trans hb)
    · obtain rfl := Option.some.inj (hb.symm.trans e')
      exact hL1.fresh hle
  · rw [htk] at hy
    rcases List.mem_append.1 hy with hy | hy
    · exact h.ns y hy
    · obtain rfl : y = e := by simpa using hy
      omega
/-- What is next, in full: the row as it will be. -/
structure FuIn (w wr : World) (QL : List HE) (s : Nat) (L : List Nat) (A : Option Addr) (c : Nat) (NL : List HE) (sl : Sl) : Prop where
  row : RdS wr wr.heap.size 2 A NL.length c (rowsV hC NL)
  new_ : ∀ a, A = some a → w.heap.size ≤ a.block
  eq : NL = insH (s, sl, L) QL
  lies : Lies wr sl L
  fresh : ∀ b, b < w.heap.size → Off sl b
  ns : ∀ e ∈ QL, e.1 ≠ s
  below : Below w.heap.size w wr
theorem FuIn.of_put {w wr : World} {QL : List HE} {s i c : Nat} {L : List Nat} {A : Option Addr} {NL : List HE} {sl : Sl} {n : Nat} (h : NxIn w wr QL s i L true (.slice A n c) NL sl) (hi : QL.length ≤ i) : FuIn w wr QL s L A c NL sl := by
  obtain ⟨-, q2, q3, q4⟩ := h.pp rfl
  have ht : QL.take i = QL := List.take_of_length_le hi
  obtain ⟨A', c', e', hr⟩ := h.ow.rds
  injection e' with e1 e2 e3
  subst e1 e3
  exact ⟨hr, fun a ha => by subst ha; exact (h.ow.own.lt a.block rfl).1, by have := h.eq; rw [if_pos rfl, ht] at this; exact this, q2, q3, by have := h.ns; rw [ht] at this; exact this, h.ow.below⟩
theorem FuIn.of_end {w wr w4 : World} {QL : List HE} {s i : Nat} {L : List Nat} {v : Value} {NL : List HE} {sl sl2 : Sl} (h : NxIn w wr QL s i L false v NL sl) (hi : QL.length ≤ i) (hQ : QL.length ≤ 500) (hx : Ext wr w4) (hL : Lies w4 sl2 L) (ho : ∀ b, b < wr.heap.size → Off sl2 b) (ty : TypeId) :
    ∃ A n c W1, (Builtin.append_ #[55, 55] ty #[v, .slice (some ⟨w4.heap.size, 0, none⟩) 1 1]).run Try.prog (w4.alloc (.cells #[.int .i64 (s : Int), .slice sl2.1 sl2.2.1 sl2.2.2] 70)) = .ok (.slice A n c) W1 ∧ n = (NL ++ [(s, sl2, L)]).length ∧ FuIn w W1 QL s L A c (NL ++ [(s, sl2, L)]) sl2 := by
  have hl := h.len
  have hb0 := (h.ow.own.lt)
  obtain ⟨v1, W1, hrun1, hO1, hk1, hv1⟩ := nx_app (h.ow.up hx) (by omega) (s, sl2, L) ty
  have ht : QL.take i = QL := List.take_of_length_le hi
  have hNL : NL = QL := by have := h.eq; rw [ht] at this; simpa using this
  obtain ⟨A, c, rfl, hr⟩ := hO1.rds
  refine ⟨A, _, c, W1, hrun1, rfl, hr, fun a ha => by subst ha; exact (hO1.own.lt a.block rfl).1, ?_, hL.keep hk1 (fun b hb => ho b (hb0 b hb.symm).2), fun b hb => ho b (Nat.lt_of_lt_of_le hb h.ow.hi), by have := h.ns; rw [ht] at this; exact this, hO1.below⟩
  rw [insH_end (x := (s, sl2, L)) (fun y hy => h.np rfl y (by rw [ht]; exact hy)), hNL]
set_option maxRecDepth 100000 in
set_option maxHeartbeats 1000000 in
theorem seqs_any (A : Option Addr) (c : Nat) (QL : List HE) (w : World) (h : RdS w w.heap.size 2 A QL.length c (rowsV hC QL)) (hn : QL.length ≤ 100000) :
    Calls Try.prog 33 #[.slice A QL.length c] w fun e w' => ∃ A' c', e = .returned (.slice A' QL.length c') ∧ RdS w' w'.heap.size 1 A' QL.length c' (rowsV intC (nums17 QL)) ∧ Below w.heap.size w w' := by
  obtain ⟨i0, hi, hz0, hz1, hz2⟩ := info_parts_ info_int
  obtain ⟨n, gn⟩ : ∃ n, QL.length = n := ⟨_, rfl⟩
  rw [gn] at h hn ⊢
  have H := Lib.hid h
  have Gn := Lib.hid gn
  have HO0 : RowKit.Hid (Ow w w.heap.size 3 1 (.slice (some ⟨w.heap.size, 0, none⟩) 0 0) 0 (rowsV intC (nums17 (QL.take 0))) (w.alloc (.cells #[] 3))) := Lib.hid (Ow.new_ (cs := #[]) (Below.refl _ _) (Nat.le_refl _) (Nat.le_refl _) (Nat.zero_le _) rfl)
  clear h gn
  go_enter Try.func33, Try.ntmps33
  go_wp2
  obtain ⟨W3, gW3⟩ : ∃ z, w.alloc (.cells #[] 3) = z := ⟨_, rfl⟩
  obtain ⟨g3, gg3⟩ : ∃ z, w.heap.size = z := ⟨_, rfl⟩
  rw [gW3, gg3] at HO0
  rw [gW3, gg3]
  have Hg3 := Lib.hid gg3
  clear gW3 gg3
  go_loopw [3, 4] (fun sv si wr => ∃ j : Nat, j ≤ n ∧ si = .int .i64 j ∧ RowKit.Hid (Ow w g3 3 1 sv j (rowsV intC (nums17 (QL.take j))) wr)) (fun _ si _ => n - (intOf si).toNat)
  case atStart => exact ⟨0, Nat.zero_le _, rfl, HO0⟩
  case round =>
    clear HO0
    obtain ⟨j, hj, rfl, HO⟩ := hrel
    obtain ⟨Av, cv, rfl, -⟩ := HO.out.rds
    by_cases hjn : j < n
    · obtain ⟨y, hy⟩ : ∃ y, QL[j]? = some y := ⟨_, List.getElem?_eq_getElem (by have := Gn.out; omega)⟩
      obtain ⟨b1, o1, rfl, hb1, hp1⟩ := H.out.place hC_len (by decide) (by omega)
      have x1 := hp1 j y hy 0 _ rfl
      rw [Addr.add_lit] at x1
      simp only [Nat.add_zero] at x1
      have l1 := (HO.out.below.cell (p := ⟨b1, o1 + j * 2, none⟩) hb1).trans x1
      have htk := take_snoc_ _ _ _ hy
      obtain ⟨v', W', hrun, hO', -, -, -⟩ := Ow.app2 (P := Try.prog) 41 41 3 i0 _ 1 8 g3 Try.underlying41 hi hz0 hz1 hz2 rfl (by decide) _ _ _ (HO.out.up (below1 wr (.cells #[.int .i64 (y.1 : Int)] 3))) _ (some ⟨wr.heap.size, 0, none⟩) 1 1 (rowsV intC [(y.1 : Int)]) (RdS.of_whole (size := 1) (n := 1) (Whole.new_ wr 3 [.int .i64 (y.1 : Int)]) rfl) (by simp [rowsV, intC, Value.oneCell']) (by unfold maxLen; omega) (by omega)
      rw [← rowsV_app, show nums17 (QL.take j) ++ [(y.1 : Int)] = nums17 (QL.take (j + 1)) by rw [htk]; simp [nums17]] at hO'
      obtain ⟨A', c', rfl, -⟩ := hO'.rds
      have Hrun := Lib.hid hrun
      have HO' := Lib.hid hO'
      clear hy hp1 x1 htk hrun hO' hb1
      go_wp2_with (first
        | (at_builtin
           refine wpList_app rfl (.tmp 12) (.tmp 18) _ rfl rfl rfl Hrun.out ?_))
      go_roundw
      case rel => exact ⟨j + 1, by omega, by go_num, HO'⟩
      case measure => simp [intOf]; omega
    · obtain rfl : n = j := by omega
      go_wp2
      go_ret
      obtain ⟨A', c', e', hr⟩ := HO.out.rds
      injection e' with e1 e2 e3
      subst e1 e3
      rw [show QL.take n = QL by rw [← Gn.out]; exact List.take_length] at hr
      exact ⟨Av, cv, rfl, hr, HO.out.below⟩
end Go.Proofs.Ythfngmlnmpbcpaa
