/- Several texts in one. -/
import Derived.Test.YtahbfdhjgnlmdaaZUG
import Derived.Maps.OwnIn
import Derived.Test.YtahbfdhjgnlmdaaZUC
import Derived.Test.YtahbfdhjgnlmdaaZUE
import Derived.Test.YtahbfdhjgnlmdaaZUA
import Derived.Test.YtahbfdhjgnlmdaaZUB
import Derived.Laws.CopyOwn
import Derived.LoopTactic

/- The document's place, Labels. -/
namespace Go.Proofs.Ytahbfdhjgnlmdaa
open Go.RowKit
set_option linter.unusedSimpArgs false
set_option linter.unusedVariables false

end Go.Proofs.Ytahbfdhjgnlmdaa

/- The document's Count, Together, Parts. -/
namespace Go.Proofs.Ytahbfdhjgnlmdaa
open Go.RowKit
set_option linter.unusedSimpArgs false
set_option linter.unusedVariables false

/-- A row more. -/
theorem RowsIn.push {P : Program} {α : Type} {W : World} {lo : Nat} {UR UE : TypeId} {s : Nat} {f : α → List Value} {A : Option Addr} {n c : Nat} {X : List (Rw α)} (h : RowsIn W lo UR UE s f A n c X) (x : Rw α) (hx : W.ownsRow lo UE s (rwV x) x.2.2.length (rowsV f x.2.2)) (hd : ∀ y ∈ X, ∀ a b, y.1 = some a → x.1 = some b → a.block ≠ b.block)
    (t ty : TypeId) (i : TypeInfo) (z : Value) (ht : P.underlying t = some (.slice UR)) (hi : P.info? UR = some i) (hz : i.zero = some z) (hsize : i.size = 1) (hby : i.bytes = 24) (hzs : z.cells.size = 1)
    (hT : UR ≠ UE) (hn : n ≤ 1000000) (hlo : lo ≤ W.heap.size) (A1 : Option Addr) (c1 : Nat) (hr : RdS W W.heap.size 1 A1 1 c1 [rwV x]) :
    ∃ A' c' W', (Builtin.append_ #[t, t] ty #[.slice A n c, .slice A1 1 c1]).run P W = .ok (.slice A' (n + 1) c') W' ∧ RowsIn W' lo UR UE s f A' (n + 1) c' (X ++ [x]) ∧ Below lo W W' ∧ W.grownBy W' (Value.slice A n c).ownBlock := by
  obtain ⟨a1, rfl⟩ : ∃ a1, A1 = some a1 := by
    cases A1 with
    | none => have := (hr.none_ rfl).1; omega
    | some a1 => exact ⟨a1, rfl⟩
  obtain ⟨v', W2, hrun, hown, hg, hn0, hb⟩ := run_append_own_at (P := P) W lo t ty UR i z 1 24 ht hi hz hsize hby hzs (by decide) _ n _ h.row a1 1 c1 _ hr.len (hr.cell a1 rfl) (by simp [rwV, Value.oneCell']) (by unfold maxLen; omega) (by omega) hlo
  have hk : ∀ k, (Value.slice A n c).ownBlock = some k → lo ≤ k := fun k hk => (h.row.lt k hk).1
  obtain ⟨A', c', rfl, _⟩ := RdS.of_own hown
  have e : rowsV rwC X ++ [rwV x] = rowsV rwC (X ++ [x]) := by rw [rowsV_app]; rfl
  rw [e] at hown
  have keep : ∀ y : Rw α, W.ownsRow lo UE s (rwV y) y.2.2.length (rowsV f y.2.2) → W2.ownsRow lo UE s (rwV y) y.2.2.length (rowsV f y.2.2) := fun y hy => hy.kept hg (by
    cases hv : (rwV y).ownBlock with
    | none => exact .inl rfl
    | some g => exact .inr fun q => own_two h.row hy hT q.symm hv)
  refine ⟨A', c', W2, hrun, ⟨hown, by simp [h.len], fun y hy => ?_, fun i j u v a b hij hu hv hua hvb => ?_⟩, (Below.refl lo W).grown hg hlo hk, hg⟩
  · rcases List.mem_append.1 hy with hy | hy
    · exact keep y (h.one y hy)
    · obtain rfl := List.mem_singleton.1 hy
      exact keep y hx
  · have get : ∀ (i : Nat) (u : Rw α), (X ++ [x])[i]? = some u → X[i]? = some u ∨ (i = X.length ∧ u = x) := fun i u hu => by
      by_cases hi : i < X.length
      · rw [List.getElem?_append_left hi] at hu; exact .inl hu
      · rw [List.getElem?_append_right (by omega)] at hu
        have h1 := (List.getElem?_eq_some_iff.1 hu).1
        simp at h1
        have e0 : i - X.length = 0 := by omega
        rw [e0] at hu
        exact .inr ⟨by omega, by simpa using hu.symm⟩
    rcases get i u hu with hu' | ⟨ei, eu⟩
    · rcases get j v hv with hv' | ⟨ej, ev⟩
      · exact h.ne i j u v a b hij hu' hv' hua hvb
      · exact hd u (List.mem_of_getElem? hu') a b hua (by rw [← ev]; exact hvb)
    · rcases get j v hv with hv' | ⟨ej, ev⟩
      · exact fun q => hd v (List.mem_of_getElem? hv') b a hvb (by rw [← eu]; exact hua) q.symm
      · omega
end Go.Proofs.Ytahbfdhjgnlmdaa

/- For Faces: a store into a map of darts in a round; the marks that a loop over iterators gathers; what faces are. -/
namespace Go.Proofs.Ytahbfdhjgnlmdaa
open Go.RowKit
set_option linter.unusedSimpArgs false
set_option linter.unusedVariables false


section
variable {b n : Nat} {f : D → Option Value} {S : List D} {w w' : World} {x : D} {t e : TypeId} {ops : Array Oper} {rest : List Oper} {o : Oper} {a : Act} {Q : Exit → Act → World → Prop} {F : Fence} {nF : Nat}
theorem wlIn_dPut (hg : o.guard = none) (m y v : Operand) (ho : o.op = .mapUpdate t m y v) (hm : a.eval m = .map (some b)) (h : MapD w b n f S) (ht : Try.prog.underlying t = some (.map 35 e)) (hn : n < maxLen) (hx : wfD x)
    (hy : a.eval y = dV x) {u : Value} (hv : a.eval v = u) (hK : ∀ w', MapD w' b (n + 1) (fun y => if y = x then some u else f y) (insD x S) → w.grownBy w' (some b) → wpListIn F nF Try.prog ops Q rest (a.put o.dst undef) w') : wpListIn F nF Try.prog ops Q (o :: rest) a w := by
  refine wpListIn_plain hg fun K' hK' => ?_
  obtain ⟨w', h1, h2, h3⟩ := h.put ht hn hx u
  unfold Oper.wpIn
  refine ⟨?_, ?_⟩
  · simp [Oper.about, ho]
  · rw [Oper.semAt_plain F _ _ (by rw [ho]; intro c hc'; cases hc'), exec_mapPut ho hm hy hv h1]
    exact hK' _ _ (hK w' h2 h3)
end
/-- The marks that loops over iterators have left, each with its block, from lo on. -/
def Marks (W : World) (lo : Nat) : List Deferred → Prop
  | [] => True
  | d :: r => (∃ k, d = { target := .collected k, args := #[] } ∧ lo ≤ k ∧ W.heap[k]? = some (.deferred (some [])) ∧ ∀ e ∈ r, e ≠ d) ∧ Marks W lo r
/-- Blocks for deferred calls may be shut. -/
structure Shut (lo : Nat) (W W' : World) : Prop where
  os : W'.os = W.os
  tape : W'.tape = W.tape
  output : W'.output = W.output
  size : W.heap.size = W'.heap.size
  block : ∀ i o, W.heap[i]? = some o → (i < lo ∨ o.isCells = true) → W'.heap[i]? = some o
theorem Shut.refl (lo : Nat) (W : World) : Shut lo W W := ⟨rfl, rfl, rfl, rfl, fun _ _ h _ => h⟩
theorem Shut.put {lo : Nat} {W W' : World} (h : Shut lo W W') {k : Nat} (hk : lo ≤ k) (hd : W'.heap[k]? = some (.deferred (some []))) : Shut lo W (W'.putObj k (.deferred none)) := by
  refine ⟨h.os, h.tape, h.output, by rw [h.size]; simp, fun i o hi hc => ?_⟩
  have h1 := h.block i o hi hc
  by_cases e : i = k
  · subst e
    exfalso
    rw [hd] at h1
    injection h1 with h1
    subst h1
    rcases hc with hc | hc
    · omega
    · cases hc
  · exact (World.putObj_heap_other e).trans h1
theorem Shut.below {lo n : Nat} {W W' : World} (h : Shut lo W W') (hn : n ≤ lo) : Below n W W' := by
  refine ⟨h.os, h.tape, h.output, Nat.le_of_eq h.size, fun k hk => ?_⟩
  cases e : W.heap[k]? with
  | none =>
    have h1 := h.size
    rw [Array.getElem?_eq_none_iff] at e ⊢
    omega
  | some o => exact h.block k o e (.inl (by omega))
theorem Marks.at_ {W W' : World} {lo : Nat} : ∀ {ds : List Deferred}, Marks W lo ds → (∀ k, lo ≤ k → W.heap[k]? = some (.deferred (some [])) → W'.heap[k]? = some (.deferred (some []))) → Marks W' lo ds
  | [], _, _ => trivial
  | _ :: _, ⟨⟨k, h1, h2, h3, h4⟩, hr⟩, hk => ⟨⟨k, h1, h2, hk k h2 h3, h4⟩, hr.at_ hk⟩
theorem Marks.other {W : World} {lo j : Nat} {d : Deferred} (hd : d = { target := .collected j, args := #[] }) (hlo : lo ≤ j) : ∀ {ds : List Deferred}, Marks W lo ds → (∀ e ∈ ds, e ≠ d) → Marks (W.putObj j (.deferred none)) lo ds
  | [], _, _ => trivial
  | c :: r, ⟨⟨k, h1, h2, h3, h4⟩, hr⟩, hne => by
    refine ⟨⟨k, h1, h2, ?_, h4⟩, hr.other hd hlo (fun e he => hne e (List.mem_cons_of_mem _ he))⟩
    have hkj : k ≠ j := fun e => hne c (List.mem_cons_self ..) (by rw [h1, hd, e])
    exact (World.putObj_heap_other hkj).trans h3
theorem leaves_marks {F : Fence} {n : Nat} {P : Program} {fn : Func} {tmps : Array Value} {R : Ending → World → Prop} {lo : Nat} {V : World} (hR : ∀ W', Shut lo V W' → LeavesIn F n P fn tmps R [] .returning W') :
    ∀ (ds : List Deferred) (W : World), Shut lo V W → Marks W lo ds → LeavesInM F n P fn tmps R ds .returning W
  | [], W, hS, _ => hR W hS
  | d :: r, W, hS, ⟨⟨k, h1, h2, h3, h4⟩, hr⟩ => by
    refine ⟨by simp, .inl ⟨k, W.putObj k (.deferred none), by rw [h1], run_takeDeferred h3, ?_⟩⟩
    exact leaves_marks hR r _ (hS.put h2 h3) (hr.other h1 h2 (fun e he => h4 e he))
theorem Marks.push {W : World} {lo k : Nat} {ds : List Deferred} (h : Marks W lo ds) (hk : lo ≤ k) (hd : W.heap[k]? = some (.deferred (some []))) (hne : ∀ e ∈ ds, e ≠ { target := .collected k, args := #[] }) : Marks W lo ({ target := .collected k, args := #[] } :: ds) :=
  ⟨⟨k, rfl, hk, hd, hne⟩, h⟩
theorem Marks.lt {W : World} {lo : Nat} : ∀ {ds : List Deferred}, Marks W lo ds → ∀ e ∈ ds, ∃ k, e = { target := .collected k, args := #[] } ∧ k < W.heap.size
  | [], _, _, h => by cases h
  | _ :: _, ⟨⟨k, h1, _, h3, _⟩, hr⟩, e, he => by
    rcases List.mem_cons.1 he with rfl | he
    · exact ⟨k, h1, (Array.getElem?_eq_some_iff.1 h3).1⟩
    · exact hr.lt e he
/-- All faces, of the darts that are still to come, T being told. -/
def facesF (g : D → Option D) (N : Nat) : List D → List D → List (List D)
  | [], _ => []
  | x :: r, T => if x ∈ T then facesF g N r T else faceL g N x :: facesF g N r (T ++ faceL g N x)
theorem rowsD (L : List D) : rowsV encD L = dartsV L := by
  induction L with
  | nil => rfl
  | cons x L ih =>
    show encD x ++ rowsV encD L = _
    rw [ih]
    rfl
/-- A row whose block lies as it lay. -/
theorem own_at {W W' : World} {lo k n : Nat} {e : TypeId} {v : Value} {xs : List Value} (h : W.ownsRow lo e k v n xs) (hb : ∀ g, v.ownBlock = some g → W'.heap[g]? = W.heap[g]?) : W'.ownsRow lo e k v n xs := by
  refine ⟨h.1, ?_⟩
  rcases h.2 with q | ⟨g, cap, cur, q1, q2, q3, q4⟩
  · exact .inl q
  · exact .inr ⟨g, cap, cur, q1, q2, (hb g (by rw [q1]; rfl)).trans q3, q4⟩
theorem RowsIn.at_ {α : Type} {W W' : World} {lo : Nat} {UR UE : TypeId} {s : Nat} {f : α → List Value} {A : Option Addr} {n c : Nat} {X : List (Rw α)} (h : RowsIn W lo UR UE s f A n c X)
    (hb : ∀ g cs t fr, lo ≤ g → W.heap[g]? = some (.cells cs t fr) → (t = UR ∨ t = UE) → W'.heap[g]? = W.heap[g]?) : RowsIn W' lo UR UE s f A n c X := by
  refine ⟨own_at h.row fun g hg => ?_, h.len, fun x hx => own_at (h.one x hx) fun g hg => ?_, h.ne⟩
  · rcases h.row.2 with ⟨q, _⟩ | ⟨g', cap, cur, q1, q2, q3, q4⟩
    · rw [q] at hg; cases hg
    · rw [q1] at hg
      obtain rfl : g' = g := Option.some.inj hg
      exact hb g' cur UR (0, 0) q2 q3 (.inl rfl)
  · rcases (h.one x hx).2 with ⟨q, _⟩ | ⟨g', cap, cur, q1, q2, q3, q4⟩
    · rw [q] at hg; cases hg
    · rw [q1] at hg
      obtain rfl : g' = g := Option.some.inj hg
      exact hb g' cur UE (0, 0) q2 q3 (.inr rfl)
end Go.Proofs.Ytahbfdhjgnlmdaa

/- face.Faces. -/
namespace Go.Proofs.Ytahbfdhjgnlmdaa
open Go.RowKit
set_option linter.unusedSimpArgs false
set_option linter.unusedVariables false


attribute [local go_sem] Oper.semAt_some

/-- What has come of a face: in the row of box bf, and told in the map bt, T having been told ahead. -/
def FcI (V : World) (bt bf bl : Nat) (T : List D) (q : Nat) (p : List D2) (W : World) : Prop :=
  Kept (fun i => i = bt ∨ i = bf ∨ bl ≤ i) V W ∧ (∃ A c, Whole W bf 36 [.slice A p.length c] ∧ W.ownsRow (bl + 3) 35 3 (.slice A p.length c) p.length (dartsV (p.map (·.1)))) ∧
    ∃ ft St, MapD W bt (q + p.length) ft St ∧ ∀ y, (ft y).isSome = true ↔ y ∈ T ∨ y ∈ p.map (·.1)
theorem Kept.gr {S : Nat → Prop} {V W W' : World} {r : Option Nat} (h : Kept S V W) (hg : W.grownBy W' r) (hr : ∀ k, r = some k → S k) : Kept S V W' :=
  h.trans ⟨hg.os, hg.tape, hg.output, hg.size, fun i hi hn => hg.block i hi (fun e => hn (hr i e.symm))⟩
theorem info_rowD : (Try.prog.info? 36).map (fun i => (i.zero, i.size, i.bytes)) = some (some (.slice none 0 0), 1, 24) := by kernel_rfl
theorem MapD.notcells {w : World} {b n : Nat} {f : D → Option Value} {S : List D} {cs : Array Value} {t : TypeId} {fr : Nat × Nat} (h : MapD w b n f S) (hc : w.heap[b]? = some (.cells cs t fr)) : False := by
  obtain ⟨D, ⟨es, clock, h1, _⟩, _⟩ := h
  rw [h1] at hc
  cases hc
theorem own_cells {W : World} {lo k n g : Nat} {e : TypeId} {v : Value} {xs : List Value} (h : W.ownsRow lo e k v n xs) (hg : v.ownBlock = some g) : ∃ cs, W.heap[g]? = some (.cells cs e (0, 0)) := by
  rcases h.2 with ⟨q, _⟩ | ⟨g', cap, cur, q1, q2, q3, q4⟩
  · rw [q] at hg; cases hg
  · rw [q1] at hg
    obtain rfl : g' = g := Option.some.inj hg
    exact ⟨_, q3⟩
theorem own_kept2 {V W : World} {lo k n bt bf bl nq : Nat} {e : TypeId} {v : Value} {xs : List Value} {f : D → Option Value} {S : List D} (h : V.ownsRow lo e k v n xs) (hk : Kept (fun i => i = bt ∨ i = bf ∨ bl ≤ i) V W) (hm : MapD V bt nq f S) (hlt : ∀ g, v.ownBlock = some g → g < bf) (hbf : bf < bl) : W.ownsRow lo e k v n xs :=
  own_at h fun g hg => by
    obtain ⟨cs, hc⟩ := own_cells h hg
    refine hk.block g (Array.getElem?_eq_some_iff.1 hc).1 (fun q => ?_)
    have := hlt g hg
    rcases q with rfl | q | q
    · exact hm.notcells hc
    · omega
    · omega
theorem newC (W : World) (y1 y2 y3 : Int) : ∀ j u, [Value.int .i64 y1, Value.int .i64 y2, Value.int .i64 y3][j]? = some u → (W.alloc (.cells #[.int .i64 y1, .int .i64 y2, .int .i64 y3] 35)).cell? ((⟨W.heap.size, 0, none⟩ : Addr).add j) = some u := fun j u hj => by
  have e := (Whole.new_ W 35 [.int .i64 y1, .int .i64 y2, .int .i64 y3]).cell hj
  rw [Addr.add_lit, Nat.zero_add]
  exact e
theorem FcI.abs {V : World} {bt bf bl : Nat} {T : List D} {q : Nat} {p : List D2} (h1 : bt < bl) (h2 : bf < bl) : AbS bl (FcI V bt bf bl T q p) := by
  rintro W W' r ⟨hk, ⟨A, c, e1, e2⟩, ft, St, e3, e4⟩ hg hr1 hr2
  refine ⟨hk.gr hg (fun k e => by cases e; exact .inr (.inr hr1)), ⟨A, c, e1.at_ (hg.block bf e1.lt (fun e => by cases e; omega)), e2.kept hg (.inr (fun e => by have := (e2.lt r e).1; omega))⟩, ft, St, e3.grown hg (fun e => by cases e; omega), e4⟩
theorem FcI.al {V W : World} {bt bf bl : Nat} {T : List D} {q : Nat} {p : List D2} (h : FcI V bt bf bl T q p W) (o : Obj) : FcI V bt bf bl T q p (W.alloc o) := by
  obtain ⟨hk, ⟨A, c, e1, e2⟩, ft, St, e3, e4⟩ := h
  exact ⟨hk.trans (Kept.of_below (below1 W o)), ⟨A, c, e1.al o, e2.alloc o⟩, ft, St, e3.al o, e4⟩
set_option maxRecDepth 100000 in
set_option maxHeartbeats 4000000 in
theorem faces_any (A : Option Addr) (n c : Nat) (Vs : List VC) (B : Option Addr) (m k : Nat) (Es : List EC) (w : World) (h : DgIn w A n c Vs B m k Es) (hn : n ≤ 1000000) (hr : ∀ x ∈ Vs, x.2.1.2.1 ≤ 1000000) (hs : ∀ v ∈ Vs, ∀ d ∈ v.2.1.2.2.2, wfS d)
    (hK : ∀ S, KeysD (sigM Vs) S → S.length ≤ 1000000) (hdl : (dsV Vs).length ≤ 1000000) :
    Calls Try.prog 53 #[.agg #[.slice A n c, .slice B m k]] w fun e w' => ∃ S A' c' X, KeysD (sigM Vs) S ∧ e = .returned (.slice A' X.length c') ∧ RowsIn w' (w.heap.size + 1) 36 35 3 encD A' X.length c' X ∧ X.map (·.2.2) = facesF (sigM Vs) S.length (sortD (dsV Vs)) [] ∧ Below w.heap.size w w' := by
  have HD := Lib.hid h
  have Hn := Lib.hid hn
  have Hr := Lib.hid hr
  have Hs := Lib.hid hs
  have HK := Lib.hid hK
  have Hdl := Lib.hid hdl
  have hmm := @run_makeMap Try.prog
  obtain ⟨i0, hi0, hz0, hz1, hz2⟩ := info_partsD info_dartD
  obtain ⟨iR, hiR, hr0, hr1, hr2⟩ := info_partsD info_rowD
  clear h hn hr hs hK hdl
  refine (callsIn_wide (n := 0)).1 ?_
  refine callsIn_of_wp_marks Try.func53 rfl trivial ?_
  simp only [Try.ntmps53, List.size_toArray, List.length_cons, List.length_nil, Nat.reduceAdd, Nat.reduceSub, Array.replicate_succ, Array.replicate_zero, List.push_toArray, List.append_toArray, List.nil_append, List.cons_append]
  refine wpIn_wide.2 ?_
  go_upto_region 2 with fail
  have hx0 : Whole ((w.alloc (.cells #[.slice A n c, .slice B m k] 25)).alloc (.cells #[.slice none 0 0] 85)) (w.heap.size) 25 [.slice A n c, .slice B m k] := ((Whole.new_ w 25 [.slice A n c, .slice B m k]).alloc (.cells #[.slice none 0 0] 85))
  have hx1 : Whole ((w.alloc (.cells #[.slice A n c, .slice B m k] 25)).alloc (.cells #[.slice none 0 0] 85)) (w.heap.size + 1) 85 [.slice none 0 0] := (Whole.new2 (w := (w.alloc (.cells #[.slice A n c, .slice B m k] 25))) (by simp))
  have hbl : Below w.heap.size w ((w.alloc (.cells #[.slice A n c, .slice B m k] 25)).alloc (.cells #[.slice none 0 0] 85)) := (bel_al (below1 w (.cells #[.slice A n c, .slice B m k] 25)) (.cells #[.slice none 0 0] 85))
  have hsz : w.heap.size + 1 + 1 ≤ (((w.alloc (.cells #[.slice A n c, .slice B m k] 25)).alloc (.cells #[.slice none 0 0] 85))).heap.size := by simp
  obtain ⟨W0, gW0⟩ : ∃ z, ((w.alloc (.cells #[.slice A n c, .slice B m k] 25)).alloc (.cells #[.slice none 0 0] 85)) = z := ⟨_, rfl⟩
  rw [gW0] at hx0 hx1 hbl hsz
  obtain ⟨b1, gb1⟩ : ∃ z, w.heap.size + 1 = z := ⟨_, rfl⟩
  rw [gb1] at hx1
  obtain ⟨b0, gb0⟩ : ∃ z, w.heap.size = z := ⟨_, rfl⟩
  rw [gb0] at hx0
  have HX0 := Lib.hid hx0
  have HX1 := Lib.hid hx1
  have HB0 := Lib.hid hbl
  have HS0 := Lib.hid hsz
  have Gb0 := Lib.hid gb0
  have Lb0 : RowKit.Hid (w.heap.size ≤ b0) := Lib.hid (by omega)
  have Gb1 := Lib.hid gb1
  have Lb1 : RowKit.Hid (w.heap.size ≤ b1) := Lib.hid (by omega)
  have N01 : RowKit.Hid (b0 ≠ b1) := Lib.hid (by omega)
  rw [gW0, gb1, gb0]
  clear gW0 hbl hsz hx0 hx1 gb0 gb1
  have c0 := HX0.out.cell (i := 0) rfl
  have c1 := HX0.out.cell (i := 1) rfl
  go_upto_region 3 with (go_at_call 60; refine (sigmas_any A n c Vs B m k Es W0 (HD.out.bl HB0.out) Hn.out Hr.out (fun v hv d hd => (Hs.out v hv d hd).1)).mono ?_; rintro e w2 ⟨bm, q0, S, rfl, hm2, hq2, hbm, hb2⟩; have HM2 := Lib.hid hm2; have HKS := Lib.hid hm2.keysD; have HB2 := Lib.hid (bel_bl HB0.out hb2); have HX2 := Lib.hid (HX0.out.bl hb2); have HL2 := Lib.hid (HX1.out.bl hb2); have Hbm : RowKit.Hid (b1 < bm) := Lib.hid (by have := HX1.out.lt; omega); clear hm2 hq2 hbm hb2)
  clear c0 c1 HX0 HX1 HB0 HS0
  have HM3 := Lib.hid ((HM2.out.al (.map #[] 0)).al (.cells #[.map (some w2.heap.size)] 96))
  have HT3 : RowKit.Hid (MapD ((w2.alloc (.map #[] 0)).alloc (.cells #[.map (some w2.heap.size)] 96)) w2.heap.size 0 (fun _ => none) []) := Lib.hid ((MapD.made).al _)
  have HX3 := Lib.hid ((HX2.out.al (.map #[] 0)).al (.cells #[.map (some w2.heap.size)] 96))
  have HL3 := Lib.hid ((HL2.out.al (.map #[] 0)).al (.cells #[.map (some w2.heap.size)] 96))
  have HU3 := Lib.hid (Whole.new2 (w := w2.alloc (.map #[] 0)) (g := w2.heap.size + 1) (t := 96) (cs := [.map (some w2.heap.size)]) (by simp))
  have HB3 := Lib.hid (bel_al (bel_al HB2.out (.map #[] 0)) (.cells #[.map (some w2.heap.size)] 96))
  go_upto_region 4 with fail
  have hlm := HM2.out.lt
  have Hlm : RowKit.Hid (bm < w2.heap.size) := Lib.hid hlm
  obtain ⟨W3, gW3⟩ : ∃ z, (w2.alloc (.map #[] 0)).alloc (.cells #[.map (some w2.heap.size)] 96) = z := ⟨_, rfl⟩
  obtain ⟨bt, gbt⟩ : ∃ z, w2.heap.size = z := ⟨_, rfl⟩
  rw [gbt] at HM3 HT3 HX3 HL3 HU3 HB3 Hlm gW3 ⊢
  rw [gW3] at HM3 HT3 HX3 HL3 HU3 HB3 ⊢
  obtain ⟨b5, gb5⟩ : ∃ z, bt + 1 = z := ⟨_, rfl⟩
  have Hb5 : RowKit.Hid (b5 = bt + 1) := Lib.hid gb5.symm
  rw [gb5] at HU3 ⊢
  clear gW3 gb5 gbt hlm HM2 HX2 HL2 HB2 hmm
  have HB3s : RowKit.Hid (b0 ≤ W3.heap.size) := Lib.hid (by have := HB3.out.size; have := Gb0.out; omega)
  have c0 := HX3.out.cell (i := 0) rfl
  have c1 := HX3.out.cell (i := 1) rfl
  go_wp2_with (go_at_call 61; refine (darts_any A n c Vs B m k Es W3 (HD.out.bl HB3.out) Hn.out Hr.out).mono ?_; rintro e w4 ⟨Ad, cd, rfl, ho4, hb4⟩; have HO4 := Lib.hid ho4; have HB4 := Lib.hid (bel_bl HB3.out hb4); have HM4 := Lib.hid (HM3.out.bl hb4); have HT4 := Lib.hid (HT3.out.bl hb4); have HL4 := Lib.hid (HL3.out.bl hb4); have HU4 := Lib.hid (HU3.out.bl hb4); clear ho4 hb4)
  clear c0 c1 HM3 HT3 HX3 HL3 HU3 HB3
  obtain ⟨L, gL⟩ : ∃ z, sortD (dsV Vs) = z := ⟨_, rfl⟩
  have hLl : L.length = (dsV Vs).length := by rw [← gL]; simp [sortD]
  have HGL := Lib.hid gL
  rw [gL] at HO4
  rw [← hLl] at HO4 Hdl ⊢
  have HLwf : RowKit.Hid (∀ d ∈ L, wfS d) := Lib.hid (fun d hd => by
    rw [← gL] at hd
    have hd2 : d ∈ dsV Vs := (List.mergeSort_perm _ _).mem_iff.1 hd
    obtain ⟨v, hv, hdv⟩ := List.mem_flatMap.1 hd2
    exact Hs.out v hv d hdv)
  clear gL hLl
  have HF4 : RowKit.Hid (facesF (sigM Vs) S.length L [] = ([] : List (List D)) ++ facesF (sigM Vs) S.length (L.drop 0) []) := Lib.hid rfl
  have HK4 : RowKit.Hid (Marks w4 (b0 + 1) []) := Lib.hid trivial
  have HR4 : RowKit.Hid (RowsIn w4 (b0 + 1) 36 35 3 encD none 0 0 ([] : List (Rw D))) := Lib.hid (RowsIn.nil_ _ _)
  refine wp_loop (fun a' wr => ∃ (u7 u8 u9 u10 u19 u20 u21 u22 u23 u24 u25 u26 u27 u28 u29 u30 u31 u41 u42 u43 u44 u45 : Value), ∃ (i q l cl : Nat) (Al : Option Addr) (ft : D → Option Value) (St T : List D) (X : List (Rw D)) (ds : List Deferred), i ≤ L.length ∧ a' = { tmps := #[.agg #[.slice A n c, .slice B m k], .pointer (some ⟨b0, 0, none⟩), .slice none 0 0, .pointer (some ⟨b1, 0, none⟩), .map (some bm), .pointer (some ⟨b5, 0, none⟩), undef, u7, u8, u9, u10, undef, .agg #[.slice A n c, .slice B m k], .map (some bm), .map (some bt), .agg #[.slice A n c, .slice B m k], .slice Ad L.length cd, .int .i64 (L.length : Int), .int .i64 (i : Int), u19, u20, u21, u22, u23, u24, u25, u26, u27, u28, u29, u30, u31, undef, undef, undef, undef, undef, undef, undef, undef, undef, u41, u42, u43, u44, u45, undef], defers := ds } ∧
    RowKit.Hid (Below w.heap.size w wr) ∧ RowKit.Hid (MapD wr bm q0 (opV (sigM Vs)) S) ∧ RowKit.Hid (MapD wr bt q ft St ∧ q ≤ i * 1000000 ∧ ∀ y, (ft y).isSome = true ↔ y ∈ T) ∧ RowKit.Hid (Whole wr b1 85 [.slice Al l cl]) ∧ RowKit.Hid (Whole wr b5 96 [.map (some bt)]) ∧
    RowKit.Hid (wr.ownsRow (W3.heap.size + 1) 35 3 (.slice Ad L.length cd) L.length (dartsV L)) ∧ RowKit.Hid (RowsIn wr (b0 + 1) 36 35 3 encD Al l cl X ∧ l ≤ i) ∧ RowKit.Hid (facesF (sigM Vs) S.length L [] = X.map (·.2.2) ++ facesF (sigM Vs) S.length (L.drop i) T) ∧ RowKit.Hid (Marks wr (b0 + 1) ds))
    (fun a' _ => L.length - (intOf (a'.tmps.getD 18 undef)).toNat) ?_ ?_
  · exact ⟨_, _, _, _, _, _, _, _, _, _, _, _, _, _, _, _, _, _, _, _, _, _, 0, 0, 0, 0, none, (fun _ => none), [], [], [], [], by omega, rfl, HB4, HM4, Lib.hid ⟨HT4.out, by omega, fun y => by simp⟩, HL4, HU4, HO4, Lib.hid ⟨HR4.out, by omega⟩, HF4, HK4⟩
  · clear HB4 HM4 HT4 HL4 HU4 HO4 HR4 HF4 HK4
    rintro _ wr ⟨u7, u8, u9, u10, u19, u20, u21, u22, u23, u24, u25, u26, u27, u28, u29, u30, u31, u41, u42, u43, u44, u45, i, q, l, cl, Al, ft, St, T, X, ds, hi, rfl, HB, HM, HT, HL, HU, HO, HR, HF, HMk⟩
    by_cases hin : i < L.length
    · obtain ⟨bd, of2, rfl, hbd, hc⟩ := (own_rds HO.out).darts (by omega)
      obtain ⟨d1, d2, d3⟩ := hc i hin
      have hwx := HLwf.out (L.getD i (0, 0, 0)) (by rw [List.getD_eq_getElem?_getD, List.getElem?_eq_getElem hin]; exact List.getElem_mem hin)
      have hdr : L.drop i = L.getD i (0, 0, 0) :: L.drop (i + 1) := by
        rw [List.drop_eq_getElem_cons hin, List.getD_eq_getElem?_getD, List.getElem?_eq_getElem hin]
        rfl
      obtain ⟨x, gx⟩ : ∃ v, L.getD i (0, 0, 0) = v := ⟨_, rfl⟩
      rw [gx] at d1 d2 d3 hwx hdr
      have HFx := HF.out
      rw [hdr] at HFx
      obtain ⟨x1, x2, x3⟩ := x
      have Hwx := Lib.hid hwx
      have HFx := Lib.hid HFx
      clear hc hbd gx hdr hwx HF
      have HBa := Lib.hid (bel_al HB.out (.cells #[.int .i64 x1, .int .i64 x2, .int .i64 x3] 35))
      have HMa := Lib.hid (HM.out.al (.cells #[.int .i64 x1, .int .i64 x2, .int .i64 x3] 35))
      have HTa := Lib.hid (HT.out.1.al (.cells #[.int .i64 x1, .int .i64 x2, .int .i64 x3] 35))
      have HLa := Lib.hid (HL.out.al (.cells #[.int .i64 x1, .int .i64 x2, .int .i64 x3] 35))
      have HUa := Lib.hid (HU.out.al (.cells #[.int .i64 x1, .int .i64 x2, .int .i64 x3] 35))
      have HOa := Lib.hid (HO.out.alloc (.cells #[.int .i64 x1, .int .i64 x2, .int .i64 x3] 35))
      have HRa := Lib.hid (HR.out.1.al (.cells #[.int .i64 x1, .int .i64 x2, .int .i64 x3] 35))
      have HKa : RowKit.Hid (Marks (wr.alloc (.cells #[.int .i64 x1, .int .i64 x2, .int .i64 x3] 35)) (b0 + 1) ds) := Lib.hid (HMk.out.at_ (fun k h1 h2 => (Below.heap_alloc _ _ _ (Array.getElem?_eq_some_iff.1 h2).1).trans h2))
      have HXa := Lib.hid (Whole.new2 (w := wr) (t := 35) (cs := [.int .i64 x1, .int .i64 x2, .int .i64 x3]) rfl)
      go_upto_region 7 with fail
      clear d1 d2 d3
      have Hq := Lib.hid HT.out.2.1
      have HTk := Lib.hid HT.out.2.2
      have Hl := Lib.hid HR.out.2
      obtain ⟨wa, gwa⟩ : ∃ z, wr.alloc (.cells #[.int .i64 x1, .int .i64 x2, .int .i64 x3] 35) = z := ⟨_, rfl⟩
      obtain ⟨b7, gb7⟩ : ∃ z, wr.heap.size = z := ⟨_, rfl⟩
      rw [gwa] at HBa HMa HTa HLa HUa HOa HRa HKa HXa ⊢
      rw [gb7] at HXa ⊢
      clear gwa gb7 HB HM HT HL HU HO HR HMk
      have c0 := HXa.out.cell (i := 0) rfl
      have c1 := HXa.out.cell (i := 1) rfl
      have c2 := HXa.out.cell (i := 2) rfl
      have e0 := HUa.out.cell (i := 0) rfl
      by_cases hxT : (x1, x2, x3) ∈ T
      · have Hft := Lib.hid ((HTk.out _).2 hxT)
        have HF2 : RowKit.Hid (facesF (sigM Vs) S.length L [] = X.map (·.2.2) ++ facesF (sigM Vs) S.length (L.drop (i + 1)) T) := Lib.hid (by rw [HFx.out, facesF, if_pos hxT])
        obtain ⟨fv, gfv⟩ : ∃ z, (ft (x1, x2, x3)).getD (.int .i64 0) = z := ⟨_, rfl⟩
        go_upto_region 8 with (at_lookup; refine wl_mapLook rfl _ _ rfl rfl HTa.out.mapF Try.underlying96 (zero_intK _) (x := (x1, x2, x3)) Hwx.out.1 rfl ?_; rw [Hft.out, gfv])
        clear c0 c1 c2 e0 gfv
        go_wp2
        have hw2 : wrap64 ((i : Int) + 1) = ((i + 1 : Nat) : Int) := by
          have := Hdl.out
          unfold wrap64
          omega
        rw [hw2]
        exact ⟨⟨_, _, _, _, _, _, _, _, _, _, _, _, _, _, _, _, _, _, _, _, _, _, i + 1, q, l, cl, Al, ft, St, T, X, ds, by omega, rfl, HBa, HMa, Lib.hid ⟨HTa.out, Nat.le_trans Hq.out (Nat.mul_le_mul_right _ (Nat.le_succ i)), HTk.out⟩, HLa, HUa, HOa, Lib.hid ⟨HRa.out, by have := Hl.out; omega⟩, HF2, HKa⟩, by simp [intOf] <;> omega⟩
      · have Hft : RowKit.Hid ((ft (x1, x2, x3)).isSome = false) := Lib.hid (by
          cases hq : (ft (x1, x2, x3)).isSome with
          | false => rfl
          | true => exact absurd ((HTk.out _).1 hq) hxT)
        obtain ⟨fv, gfv⟩ : ∃ z, (ft (x1, x2, x3)).getD (.int .i64 0) = z := ⟨_, rfl⟩
        go_upto_region 8 with (at_lookup; refine wl_mapLook rfl _ _ rfl rfl HTa.out.mapF Try.underlying96 (zero_intK _) (x := (x1, x2, x3)) Hwx.out.1 rfl ?_; rw [Hft.out, gfv])
        clear gfv
        go_upto_region 10 with fail
        have HBf := Lib.hid (bel_al HBa.out (.cells #[.slice none 0 0] 36))
        have HMf := Lib.hid (HMa.out.al (.cells #[.slice none 0 0] 36))
        have HTf := Lib.hid (HTa.out.al (.cells #[.slice none 0 0] 36))
        have HLf := Lib.hid (HLa.out.al (.cells #[.slice none 0 0] 36))
        have HUf := Lib.hid (HUa.out.al (.cells #[.slice none 0 0] 36))
        have HOf := Lib.hid (HOa.out.alloc (.cells #[.slice none 0 0] 36))
        have HRf := Lib.hid (HRa.out.al (.cells #[.slice none 0 0] 36))
        have HXf := Lib.hid (HXa.out.al (.cells #[.slice none 0 0] 36))
        have HKf : RowKit.Hid (Marks (wa.alloc (.cells #[.slice none 0 0] 36)) (b0 + 1) ds) := Lib.hid (HKa.out.at_ (fun k h1 h2 => (Below.heap_alloc _ _ _ (Array.getElem?_eq_some_iff.1 h2).1).trans h2))
        have HWf := Lib.hid (Whole.new2 (w := wa) (t := 36) (cs := [.slice none 0 0]) rfl)
        have Hlt : RowKit.Hid ((∀ g, (Value.slice Al l cl).ownBlock = some g → b0 + 1 ≤ g ∧ g < wa.heap.size) ∧ (∀ x ∈ X, ∀ g, (rwV x).ownBlock = some g → b0 + 1 ≤ g ∧ g < wa.heap.size) ∧ ∀ g, (Value.slice (some ⟨bd, of2, none⟩) L.length cd).ownBlock = some g → b0 + 1 ≤ g ∧ g < wa.heap.size) :=
          Lib.hid ⟨fun g e => HRa.out.row.lt g e, fun x hx g e => (HRa.out.one x hx).lt g e, fun g e => ⟨by have := (HOa.out.lt g e).1; have := HB3s.out; omega, (HOa.out.lt g e).2⟩⟩
        obtain ⟨wf, gwf⟩ : ∃ z, wa.alloc (.cells #[.slice none 0 0] 36) = z := ⟨_, rfl⟩
        obtain ⟨bf, gbf⟩ : ∃ z, wa.heap.size = z := ⟨_, rfl⟩
        have Hbf : RowKit.Hid (bm < bf ∧ bt < bf ∧ b1 < bf ∧ b5 < bf ∧ b0 < bf) := Lib.hid (by
          have := HMa.out.lt; have := HTa.out.lt; have := HLa.out.lt; have := HUa.out.lt; have := HBa.out.size; have := Gb0.out; have := Gb1.out; have := Hbm.out
          omega)
        rw [gwf] at HBf HMf HTf HLf HUf HOf HRf HKf HXf HWf ⊢
        rw [gbf] at HWf Hlt ⊢
        clear gwf gbf HBa HMa HTa HLa HUa HOa HRa HKa HXa c0 c1 c2 e0
        have c0 := HXf.out.cell (i := 0) rfl
        have c1 := HXf.out.cell (i := 1) rfl
        have c2 := HXf.out.cell (i := 2) rfl
        go_wp2_with (go_at_call 62; refine (round_any bm x1 x2 x3 _).mono ?_; rintro e w' ⟨rfl, rfl⟩)
        clear c0 c1 c2
        have HMv := Lib.hid ((HMf.out.al (.cells #[.map (some bm)] 94)).al (.cells #[.int .i64 x1, .int .i64 x2, .int .i64 x3] 35))
        have HTv := Lib.hid ((HTf.out.al (.cells #[.map (some bm)] 94)).al (.cells #[.int .i64 x1, .int .i64 x2, .int .i64 x3] 35))
        have HLv := Lib.hid ((HLf.out.al (.cells #[.map (some bm)] 94)).al (.cells #[.int .i64 x1, .int .i64 x2, .int .i64 x3] 35))
        have HUv := Lib.hid ((HUf.out.al (.cells #[.map (some bm)] 94)).al (.cells #[.int .i64 x1, .int .i64 x2, .int .i64 x3] 35))
        have HRv := Lib.hid ((HRf.out.al (.cells #[.map (some bm)] 94)).al (.cells #[.int .i64 x1, .int .i64 x2, .int .i64 x3] 35))
        have HWv := Lib.hid ((HWf.out.al (.cells #[.map (some bm)] 94)).al (.cells #[.int .i64 x1, .int .i64 x2, .int .i64 x3] 35))
        have HOv := Lib.hid ((HOf.out.alloc (.cells #[.map (some bm)] 94)).alloc (.cells #[.int .i64 x1, .int .i64 x2, .int .i64 x3] 35))
        have HBv := Lib.hid (bel_al (bel_al HBf.out (.cells #[.map (some bm)] 94)) (.cells #[.int .i64 x1, .int .i64 x2, .int .i64 x3] 35))
        have HKv : RowKit.Hid (Marks ((wf.alloc (.cells #[.map (some bm)] 94)).alloc (.cells #[.int .i64 x1, .int .i64 x2, .int .i64 x3] 35)) (b0 + 1) ds) := Lib.hid (HKf.out.at_ (fun k h1 h2 => by
          have q := (Array.getElem?_eq_some_iff.1 h2).1
          exact ((Below.heap_alloc _ _ _ (by simp; omega)).trans (Below.heap_alloc _ _ _ q)).trans h2))
        have HNx := Lib.hid ((Whole.new_ wf 94 [.map (some bm)]).al (.cells #[.int .i64 x1, .int .i64 x2, .int .i64 x3] 35))
        have HXx := Lib.hid (Whole.new2 (w := wf.alloc (.cells #[.map (some bm)] 94)) (g := wf.heap.size + 1) (t := 35) (cs := [.int .i64 x1, .int .i64 x2, .int .i64 x3]) (by simp))
        have Hbl : RowKit.Hid (bf < wf.heap.size ∧ ((wf.alloc (.cells #[.map (some bm)] 94)).alloc (.cells #[.int .i64 x1, .int .i64 x2, .int .i64 x3] 35)).heap.size = wf.heap.size + 2) := Lib.hid ⟨HWf.out.lt, by simp⟩
        obtain ⟨V, gV⟩ : ∃ z, (wf.alloc (.cells #[.map (some bm)] 94)).alloc (.cells #[.int .i64 x1, .int .i64 x2, .int .i64 x3] 35) = z := ⟨_, rfl⟩
        obtain ⟨bx, gbx⟩ : ∃ z, wf.heap.size + 1 = z := ⟨_, rfl⟩
        obtain ⟨bn, gbn⟩ : ∃ z, wf.heap.size = z := ⟨_, rfl⟩
        rw [gV] at HMv HTv HLv HUv HRv HWv HOv HBv HKv HNx HXx Hbl ⊢
        rw [gbx] at HXx ⊢
        rw [gbn] at HNx Hbl gbx ⊢
        have Hbx := Lib.hid gbx
        clear gV gbx gbn HMf HTf HLf HUf HRf HWf HOf HBf HKf HXf
        obtain ⟨bl, gbl⟩ : ∃ z, V.heap.size = z := ⟨_, rfl⟩
        rw [gbl] at Hbl
        have Gbl := Lib.hid gbl
        have hNl := HK.out _ HKS.out
        have HNl := Lib.hid hNl
        refine (wpIn_wide (n := 0)).1 ?_
        have HI0 : FcI V bt bf bl T q [] V := ⟨Kept.refl _ _, ⟨none, 0, HWv.out, World.ownsRow_nil _ _ _ _⟩, ft, St, HTv.out, fun y => by rw [HTk.out y]; simp⟩
        have HA : ∀ p, AbS bl (FcI V bt bf bl T q p) := fun p => FcI.abs (by have := HTv.out.lt; omega) (by have := HWv.out.lt; omega)
        clear hNl
        refine wpIn_roundS (gf := 80) (lb := #[.pointer (some ⟨bx, 0, none⟩), .pointer (some ⟨bn, 0, none⟩)]) rfl (enters_of Try.func80 (by kernel_rfl) rfl) (encs := fun y : D2 => #[dV y.1]) (fun _ => rfl) (fun i => i = bx ∨ i = bn ∨ i = bm ∨ i = bl + 2) (by have := HNx.out.lt; have := HXx.out.lt; have := HMv.out.lt; omega)
          (fun r => round_its bx bn bm q0 (sigM Vs) S (x1, x2, x3) Hwx.out.1 (fun h => sigM_key Hs.out _ h) (sigM_some Hs.out) _ _ ⟨.inl rfl, .inr (.inl rfl), .inr (.inr (.inl rfl)), .inr (.inr (.inr (by simp [World.size_alloc, gbl])))⟩ ((HXx.out.al _).al _) ((HNx.out.al _).al _) ((HMv.out.al _).al _) (by have := HNl.out; omega))
          (FcI V bt bf bl T q) (fun p y a' W => ∃ By, bl + 3 ≤ By ∧ By < W.heap.size ∧ Whole W By 35 [.int .i64 y.1.1, .int .i64 y.1.2.1, .int .i64 y.1.2.2] ∧ a' = { tmps := #[.agg #[.slice A n c, .slice B m k], .pointer (some ⟨b0, 0, none⟩), .slice none 0 0, .pointer (some ⟨b1, 0, none⟩), .map (some bm), .pointer (some ⟨b5, 0, none⟩), undef, .pointer (some ⟨b7, 0, none⟩), fv, .bool false, .pointer (some ⟨bf, 0, none⟩), .pointer (some ⟨By, 0, none⟩), .agg #[.slice A n c, .slice B m k], .map (some bm), .map (some bt), .agg #[.slice A n c, .slice B m k], .slice (some ⟨bd, of2, none⟩) L.length cd, .int .i64 (L.length : Int), .int .i64 (i : Int), .bool true, .pointer (some ⟨bd, of2 + i * 3, none⟩), .agg #[.int .i64 x1, .int .i64 x2, .int .i64 x3], .tuple #[fv, .bool false], .map (some bt), .agg #[.int .i64 x1, .int .i64 x2, .int .i64 x3], .tuple #[fv, .bool false], fv, .bool false, .bool false, .map (some bm), .agg #[.int .i64 x1, .int .i64 x2, .int .i64 x3], .func (.func 80) #[] #[.pointer (some ⟨bx, 0, none⟩), .pointer (some ⟨bn, 0, none⟩)], dV y.1, undef, undef, undef, undef, undef, undef, undef, undef, u41, u42, u43, u44, u45, undef], defers := [] } ∧ FcI V bt bf bl T q p W)
          (fun _ _ _ => False) (by rw [gbl]; exact HA)
          (fun p y a' W W' r h hg hr1 hr2 => by rw [gbl] at hr1 hr2; obtain ⟨By, e1, e2, e3, e4, e5⟩ := h; exact ⟨By, e1, Nat.lt_of_lt_of_le e2 hg.size, e3.at_ (hg.block By e2 (fun e => by cases e; omega)), e4, HA p W W' r e5 hg hr1 hr2⟩)
          (fun _ _ _ _ _ h => h.elim) HI0 ?assign ?body ?done ?stop
        case assign =>
          rintro l' pre ⟨⟨y1, y2, y3⟩, hy⟩ W R hiP hsz3 hK
          simp only [dV]
          gi_wp2
          exact hK _ _ (KpS.grown (World.grownBy_alloc W _ none) (fun r e => by cases e)) ⟨W.heap.size, by omega, by simp, Whole.new_ _ _ _, rfl, hiP.al _⟩
        case body =>
          rintro l' pre ⟨⟨y1, y2, y3⟩, hy⟩ a' W ⟨By, hBy, hBl, hY, rfl, hk, ⟨A9, c9, hb, ho⟩, ft9, St9, hm9, hk9⟩ hlen hsz3
          have hb_1 : bf < bl := by have := Hbl.out; omega
          have hb_2 : bf < bn := Hbl.out.1
          have hb_3 : bn < bx := by have := Hbx.out; omega
          have hb_4 : bx < bl := by have := Hbx.out; have := Hbl.out; omega
          have hwfy : wfD (y1, y2, y3) := hy.1
          have hU := hk.whole HUv.out (fun h => by have := Hbf.out; have := Hb5.out; have := HUv.out.lt; omega)
          have hLw := hk.whole HLv.out (fun h => by have := Hbf.out; have := HLv.out.lt; have := Hlm.out; have := Hbm.out; omega)
          have c0 := hU.cell (i := 0) rfl
          have c1 := hLw.cell (i := 0) rfl
          have d0 := hY.cell (i := 0) rfl
          have d1 := hY.cell (i := 1) rfl
          have d2 := hY.cell (i := 2) rfl
          have hne1 : bt ≠ bf := by have := Hbf.out; omega
          have hqq : q + pre.length < maxLen := by have := Hq.out; have := Hdl.out; have := HNl.out; unfold maxLen; omega
          have hpl : pre.length < 1000000 := by have := HNl.out; omega
          have hbt := Hbf.out.2.1
          clear hwfy
          have hwfy := Lib.hid hy.1
          simp only [dV]
          gi_wp2_with (first
            | (gi_at_mapUpdate
               refine wlIn_dPut rfl _ _ _ rfl rfl hm9 Try.underlying96 hqq hwfy.out rfl rfl ?_
               intro w1 hm1 hg1
               have hb1 := hb.grown hg1 (fun e => by have := Option.some.inj e; omega)
               have hY1 := hY.grown hg1 (fun e => by have := Option.some.inj e; omega)
               have ho1 := ho.kept hg1 (.inr (fun e => by have := (ho.lt _ e).1; omega))
               have k0 := hb1.cell (i := 0) rfl
               have z0 := hY1.cell (i := 0) rfl
               have z1 := hY1.cell (i := 1) rfl
               have z2 := hY1.cell (i := 2) rfl
               have hb2 := hb1.al (.cells #[.int .i64 y1, .int .i64 y2, .int .i64 y3] 35)
               have ho2 := ho1.alloc (.cells #[.int .i64 y1, .int .i64 y2, .int .i64 y3] 35)
               have hne := own_ne ho2 hb2 (by decide)
               have hsz1 := hg1.size)
            | (gi_at_builtin
               refine wpListIn_append_own _ rfl _ _ 36 rfl (bl + 3) 35 i0 _ 3 24 Try.underlying36 hi0 hz0 hz1 hz2 rfl (by decide) _ _ _ rfl ho2 ⟨w1.heap.size, 0, none⟩ 1 1 [.int .i64 y1, .int .i64 y2, .int .i64 y3] rfl rfl (newC w1 y1 y2 y3) (by simp [Value.oneCell']) (by unfold maxLen; omega) (by omega) (by simp; omega) ?_
               intro v' w2 hown' hgrow _
               obtain ⟨g', cap', rfl⟩ := ownsRow_succ hown'
               have n1 := (hb2.grown hgrow hne).cell (i := 0) rfl
               have f1 := (hb2.grown hgrow hne).free 0))
          have hb_5 : bm < bt := Hlm.out
          have hl1 : (pre ++ [(⟨(y1, y2, y3), hy⟩ : D2)]).length = pre.length + 1 := by simp
          have hl2 : dartsV ((pre ++ [(⟨(y1, y2, y3), hy⟩ : D2)]).map (·.1)) = dartsV (pre.map (·.1)) ++ [.int .i64 y1, .int .i64 y2, .int .i64 y3] := by rw [List.map_append, dartsV_app]; rfl
          have hlt2 := hown'.lt g' rfl
          have hrow : ∀ r, (Value.slice A9 pre.length c9).ownBlock = some r → bl + 3 ≤ r := fun r e => (ho2.lt r e).1
          refine ⟨(KpS.grown hg1 (fun r e q => by cases e; omega)).trans ((KpS.grown (World.grownBy_alloc w1 _ none) (fun r e => by cases e)).trans ((KpS.grown hgrow (fun r e q => by have := hrow r e; omega)).trans (KpS.grown (grownBy_setCell' _ _ _) (fun r e q => by cases e; omega)))), ?_⟩
          refine ⟨(((hk.gr hg1 (fun k e => by cases e; exact .inl rfl)).trans (Kept.of_below (below1 w1 _))).gr hgrow (fun k e => .inr (.inr (by have := hrow k e; omega)))).gr (grownBy_setCell' _ _ _) (fun k e => by cases e; exact .inr (.inl rfl)), ⟨some ⟨g', 0, none⟩, cap', ?_, ?_⟩, _, _, ((((hm1.mono (by rw [hl1]; omega)).al _).grown hgrow (fun e => by have := hrow bt e.symm; omega)).grown (grownBy_setCell' _ _ _) (fun e => by have := Option.some.inj e; omega)), fun y => ?_⟩
          · rw [hl1]
            exact (hb2.grown hgrow hne).set_ 0 _
          · rw [hl1, hl2]
            exact hown'.kept (grownBy_setCell' _ _ _) (.inr (fun e => by have e2 : g' = bf := Option.some.inj e; omega))
          · have h9 := hk9 y
            rw [List.map_append, List.mem_append]
            by_cases e : y = (y1, y2, y3)
            · subst e
              simp
            · rw [if_neg e, h9]
              have e2 : ¬ y ∈ [(⟨(y1, y2, y3), hy⟩ : D2)].map (·.1) := fun q => e (List.mem_singleton.1 q)
              simp only [e2, or_false]
        case done =>
          rintro ys W hS ⟨hk, ⟨A9, c9, hb, ho⟩, ft9, St9, hm9, hk9⟩ hKd
          rw [gbl] at hKd ⊢
          have hb_1 : bf < bl := by have := Hbl.out; omega
          have hb_2 : bm < bt := Hlm.out
          have hb_3 := Hbf.out
          have hb_4 := Gb0.out
          have hb_5 := Gb1.out
          have hb_6 : b1 < bm := Hbm.out
          have hlf : ys.length = (faceL (sigM Vs) S.length (x1, x2, x3)).length := by rw [← hS, List.length_map]
          have hnl : ys.length ≤ 1000000 := by have := faceL_len (sigM Vs) S.length (x1, x2, x3); have := HNl.out; omega
          rw [hS] at ho
          simp only [hS] at hk9
          have hFy := HFx.out
          rw [facesF, if_neg hxT] at hFy
          obtain ⟨Fx, gFx⟩ : ∃ z, faceL (sigM Vs) S.length (x1, x2, x3) = z := ⟨_, rfl⟩
          rw [gFx] at hlf ho hk9 hFy
          rw [hlf] at hb ho hm9 hnl
          have HBw : RowKit.Hid (Below w.heap.size w W) := Lib.hid (HBv.out.trans (hk.below HBv.out.size (fun k h q => by omega)))
          have HMw : RowKit.Hid (MapD W bm q0 (opV (sigM Vs)) S) := Lib.hid (HMv.out.kept hk (fun q => by omega))
          have HLw : RowKit.Hid (Whole W b1 85 [.slice Al l cl]) := Lib.hid (hk.whole HLv.out (fun h => by omega))
          have HUw : RowKit.Hid (Whole W b5 96 [.map (some bt)]) := Lib.hid (hk.whole HUv.out (fun h => by have := Hb5.out; omega))
          have HOw : RowKit.Hid (W.ownsRow (W3.heap.size + 1) 35 3 (.slice (some ⟨bd, of2, none⟩) L.length cd) L.length (dartsV L)) := Lib.hid (own_kept2 HOv.out hk HTv.out (fun g e => (Hlt.out.2.2 g e).2) hb_1)
          have HRw : RowKit.Hid (RowsIn W (b0 + 1) 36 35 3 encD Al l cl X) := Lib.hid ⟨own_kept2 HRv.out.row hk HTv.out (fun g e => (Hlt.out.1 g e).2) hb_1, HRv.out.len, fun x hx => own_kept2 (HRv.out.one x hx) hk HTv.out (fun g e => (Hlt.out.2.1 x hx g e).2) hb_1, HRv.out.ne⟩
          have HKw : RowKit.Hid (Marks W (b0 + 1) ({ target := .collected bl, args := #[] } :: ds)) := Lib.hid ((HKv.out.at_ (fun k h1 h2 => (hk.block k (Array.getElem?_eq_some_iff.1 h2).1 (fun q => by
              rcases q with q | q | q
              · obtain ⟨D, ⟨es, clock, h3, _⟩, _⟩ := HTv.out
                rw [q, h3] at h2; cases h2
              · have h3 : V.heap[bf]? = _ := HWv.out
                rw [q, h3] at h2; cases h2
              · have := (Array.getElem?_eq_some_iff.1 h2).1; omega)).trans h2)).push (by omega) hKd (fun e he q => by
              obtain ⟨k, e1, e2⟩ := HKv.out.lt e he
              rw [e1] at q
              injection q with q1
              injection q1 with q1
              omega))
          have HTw : RowKit.Hid (MapD W bt (q + Fx.length) ft9 St9) := Lib.hid hm9
          have HFw : RowKit.Hid (Whole W bf 36 [.slice A9 Fx.length c9]) := Lib.hid hb
          have HXw : RowKit.Hid (W.ownsRow (bl + 3) 35 3 (.slice A9 Fx.length c9) Fx.length (dartsV Fx)) := Lib.hid ho
          have HKeys : RowKit.Hid (∀ y, (ft9 y).isSome = true ↔ y ∈ T ++ Fx) := Lib.hid (fun y => by rw [hk9 y, List.mem_append])
          have HFz := Lib.hid hFy
          have Hnl := Lib.hid hnl
          clear hk hb ho hm9 hk9 hKd hFy hnl hlf hS gFx HBv HMv HTv HLv HUv HOv HRv HKv HWv HNx HXx HI0 HA
          have c0 := HLw.out.cell (i := 0) rfl
          have c1 := HFw.out.cell (i := 0) rfl
          go_upto_region 14 with fail
          clear hb_3 hb_4 hb_5
          refine wp_region_lit ?_
          refine wl_read (v := ?_) (some 41) rfl (by rfl) ?_ ?_
          rotate_left
          · go_simp; (try with_reducible rfl)
          simp only [Act.put, List.setIfInBounds_toArray, List.set_cons_zero, List.set_cons_succ]
          refine wl_read (v := ?_) (some 42) rfl (by rfl) ?_ ?_
          rotate_left
          · go_simp; (try with_reducible rfl)
          simp only [Act.put, List.setIfInBounds_toArray, List.set_cons_zero, List.set_cons_succ]
          refine wl_buildSlice (some 43) rfl (by rfl) 85 36 1 #[(0, .tmp 42)] (by rfl) Try.underlying85 #[.slice A9 Fx.length c9] (by kernel_rfl) ?_
          simp only [Act.put, List.setIfInBounds_toArray, List.set_cons_zero, List.set_cons_succ]
          clear c0 c1
          obtain ⟨A7, c7, W6, hrun, hR6, hb6, hg6⟩ := (HRw.out.al (.cells #[.slice A9 Fx.length c9] 36)).push (P := Try.prog) ((A9, c9, Fx) : Rw D) (by have := own_base HXw.out (show b0 + 1 ≤ bl + 3 by have := Hbl.out; have := Hbf.out; omega); rw [← rowsD] at this; exact this.alloc _)
            (fun y hy a b e1 e2 => by
              have q1 := (Hlt.out.2.1 y hy a.block (by rw [rw_block, e1]; rfl)).2
              have q2 := (HXw.out.lt b.block (by rw [show A9 = some b from e2]; rfl)).1
              omega)
            85 85 iR _ Try.underlying85 hiR hr0 hr1 hr2 rfl (by decide) (by have := Hl.out; have := Hdl.out; omega) (by have := HBw.out.size; have := Gb0.out; simp; omega) (some ⟨W.heap.size, 0, none⟩) 1 (RdS.of_whole (Whole.new2 rfl) rfl)
          refine wl_run (some 44) rfl (by rfl) (exec_append (by rfl) (by rfl) (by rfl) hrun) ?_
          simp only [Act.put, List.setIfInBounds_toArray, List.set_cons_zero, List.set_cons_succ]
          have n1 := own_ne (HRw.out.row.alloc (.cells #[.slice A9 Fx.length c9] 36)) (HLw.out.al (.cells #[.slice A9 Fx.length c9] 36)) (by decide)
          have n5 := own_ne (HRw.out.row.alloc (.cells #[.slice A9 Fx.length c9] 36)) (HUw.out.al (.cells #[.slice A9 Fx.length c9] 36)) (by decide)
          have hrow : ∀ g, (Value.slice Al l cl).ownBlock = some g → ∃ cs, (W.alloc (.cells #[.slice A9 Fx.length c9] 36)).heap[g]? = some (.cells cs 36 (0, 0)) := fun g hg => own_cells (HRw.out.row.alloc _) hg
          have HB6 : RowKit.Hid (Below w.heap.size w W6) := Lib.hid ((bel_al HBw.out (.cells #[.slice A9 Fx.length c9] 36)).grown hg6 (by have := HBw.out.size; simp; omega) (fun k e => by have := (Hlt.out.1 k e).1; have := Gb0.out; omega))
          have HM6 := Lib.hid ((HMw.out.al (.cells #[.slice A9 Fx.length c9] 36)).grown hg6 (fun e => by obtain ⟨cs, hc⟩ := hrow bm e.symm; exact (HMw.out.al _).notcells hc))
          have HT6 := Lib.hid ((HTw.out.al (.cells #[.slice A9 Fx.length c9] 36)).grown hg6 (fun e => by obtain ⟨cs, hc⟩ := hrow bt e.symm; exact (HTw.out.al _).notcells hc))
          have HL6 := Lib.hid ((HLw.out.al (.cells #[.slice A9 Fx.length c9] 36)).grown hg6 n1)
          have HU6 := Lib.hid ((HUw.out.al (.cells #[.slice A9 Fx.length c9] 36)).grown hg6 n5)
          have HO6 := Lib.hid ((HOw.out.alloc (.cells #[.slice A9 Fx.length c9] 36)).kept hg6 (.inr (fun e => own_two HRw.out.row HOw.out (by decide) e.symm rfl)))
          have HK6 : RowKit.Hid (Marks W6 (b0 + 1) ({ target := .collected bl, args := #[] } :: ds)) := Lib.hid (HKw.out.at_ (fun k h1 h2 => by
            have h3 : (W.alloc (.cells #[.slice A9 Fx.length c9] 36)).heap[k]? = some (.deferred (some [])) := (Below.heap_alloc _ _ _ (Array.getElem?_eq_some_iff.1 h2).1).trans h2
            refine (hg6.block k (Array.getElem?_eq_some_iff.1 h3).1 (fun e => ?_)).trans h3
            obtain ⟨cs, hc⟩ := hrow k e.symm
            rw [hc] at h3
            cases h3))
          have HR6 := Lib.hid hR6
          clear hrun hR6 hb6 hg6 n1 n5 hrow HBw HMw HTw HLw HUw HOw HRw HKw HFw HXw
          have c1 := HL6.out.cell (i := 0) rfl
          have f1 := HL6.out.free 0
          have e1 : RowKit.Hid (b1 ≠ b5) := Lib.hid (by have := Hb5.out; have := Hlm.out; have := Hbm.out; omega)
          have Hb1 : RowKit.Hid (w.heap.size ≤ b1) := Lib.hid (by have := Gb1.out; omega)
          have HB7 := Lib.hid (HB6.out.setCell (p := ⟨b1, 0, none⟩) Hb1.out (.slice A7 (l + 1) c7))
          have HM7 := Lib.hid (HM6.out.grown (grownBy_setCell' _ b1 (.slice A7 (l + 1) c7)) (fun e => by have := Option.some.inj e; have := Hbm.out; omega))
          have HT7 := Lib.hid (HT6.out.grown (grownBy_setCell' _ b1 (.slice A7 (l + 1) c7)) (fun e => by have := Option.some.inj e; have := Hbm.out; have := Hlm.out; omega))
          have HL7 := Lib.hid (HL6.out.set_ 0 (.slice A7 (l + 1) c7))
          have HU7 := Lib.hid (HU6.out.grown (grownBy_setCell' _ b1 (.slice A7 (l + 1) c7)) (fun e => e1.out (Option.some.inj e).symm))
          have HO7 := Lib.hid (HO6.out.kept (grownBy_setCell' _ b1 (.slice A7 (l + 1) c7)) (.inr (fun e => own_ne HO6.out HL6.out (by decide) e.symm)))
          have HR7 := Lib.hid (HR6.out.far (grownBy_setCell' _ b1 (.slice A7 (l + 1) c7)) (fun g e q => own_ne HR6.out.row HL6.out (by decide) (by rw [q, ← e])) (fun y hy g e q => own_ne (HR6.out.one y hy) HL6.out (by decide) (by rw [show (Value.slice y.1 y.2.2.length y.2.1).ownBlock = _ from q, ← e])))
          have HK7 := Lib.hid (HK6.out.at_ (W' := W6.setCell ⟨b1, 0, none⟩ (.slice A7 (l + 1) c7)) (fun k h1 h2 => ((grownBy_setCell' W6 b1 (.slice A7 (l + 1) c7)).block k (Array.getElem?_eq_some_iff.1 h2).1 (fun e => by
            have h3 : W6.heap[b1]? = _ := HL6.out
            rw [Option.some.inj e, h3] at h2
            cases h2)).trans h2))
          clear HB6 HM6 HT6 HL6 HU6 HO6 HR6 HK6
          go_wp2
          have hw2 : wrap64 ((i : Int) + 1) = ((i + 1 : Nat) : Int) := by
            have := Hdl.out
            unfold wrap64
            omega
          have HQ9 : RowKit.Hid (q + Fx.length ≤ (i + 1) * 1000000) := Lib.hid (by
            have h1 := Hq.out
            have h2 := Hnl.out
            generalize (1000000 : Nat) = M at h1 h2 ⊢
            rw [Nat.add_mul, Nat.one_mul]
            exact Nat.add_le_add h1 h2)
          rw [hw2]
          refine ⟨⟨_, _, _, _, _, _, _, _, _, _, _, _, _, _, _, _, _, _, _, _, _, _, i + 1, q + Fx.length, l + 1, c7, A7, ft9, St9, T ++ Fx, X ++ [((A9, c9, Fx) : Rw D)], _ :: ds, ?_, rfl, ?_, ?_, ?_, ?_, ?_, ?_, ?_, ?_, ?_⟩, ?_⟩
          · exact hin
          · exact HB7
          · exact HM7
          · exact Lib.hid ⟨HT7.out, HQ9.out, HKeys.out⟩
          · exact HL7
          · exact HU7
          · exact HO7
          · exact Lib.hid ⟨HR7.out, Nat.succ_le_succ Hl.out⟩
          · exact Lib.hid (by rw [HFz.out, List.map_append, List.append_assoc]; rfl)
          · exact HK7
          · simp [intOf]
            first | done | exact hin | exact Nat.sub_lt_sub_left hin (Nat.lt_succ_self i)
        case stop =>
          rintro c' pre W _ h _
          exact h.elim
    · obtain rfl : L.length = i := by omega
      have c0 := HL.out.cell (i := 0) rfl
      go_wp2
      have hFl := HF.out
      rw [List.drop_length] at hFl
      have hrow := HR.out.1
      have hlen : X.length = l := hrow.len
      refine leaves_marks (V := wr) (lo := b0 + 1) (fun W' hS => ?_) ds wr (Shut.refl _ _) HMk.out
      refine ⟨_, results_tmp rfl _ _ _, S, Al, cl, X, HKS.out, by rw [hlen]; rfl, ?_, ?_, ?_⟩
      · rw [hlen, Gb0.out]
        exact hrow.at_ (fun g cs t fr _ hg _ => (hS.block g _ hg (.inr rfl)).trans hg.symm)
      · rw [HGL.out, hFl]
        simp [facesF]
      · exact HB.out.trans (hS.below (by have := Gb0.out; omega))
end Go.Proofs.Ytahbfdhjgnlmdaa

/- All faces are all orbits. -/
namespace Go.Proofs.Ytahbfdhjgnlmdaa
open Go.RowKit
set_option linter.unusedSimpArgs false
set_option linter.unusedVariables false
section
variable {Vs : List VC} {Es : List EC}
theorem facesF_eq (h : Formed Vs Es) {N : Nat} (hN : (ringsOf Vs).length ≤ N) : ∀ (l T : List D), (∀ x ∈ l, x ∈ ringsOf Vs) → facesF (sigM Vs) N l T = orbsF (phF Vs) 80 l T
  | [], _, _ => rfl
  | x :: r, T, hl => by
    have hx := hl x (List.mem_cons_self ..)
    have hr := fun y hy => hl y (List.mem_cons_of_mem _ hy)
    have e : faceL (sigM Vs) N x = orbT (phF Vs) x 80 x := by
      rw [faceL_eq h hN, faceD, if_pos hx]
    rw [facesF, orbsF, facesF_eq h hN r _ hr, facesF_eq h hN r _ hr, e]
    by_cases q : x ∈ T
    · rw [if_pos q, if_pos q]
    · rw [if_neg q, if_neg q]
end
end Go.Proofs.Ytahbfdhjgnlmdaa

/- All darts of a diagram that is well formed, in their order. -/
namespace Go.Proofs.Ytahbfdhjgnlmdaa
open Go.RowKit
set_option linter.unusedSimpArgs false
set_option linter.unusedVariables false

theorem cfD_side (a b : Int) : cfD (a, b, 0) (a, b, 1) < 0 := by
  unfold cfD ordD
  rw [if_pos ⟨rfl, rfl⟩]
  show cmpI 0 1 < 0
  decide
theorem cfD_id {a b : Int × Int} (h : ordP a b < 0) (s t : Int) : cfD (a.1, a.2, s) (b.1, b.2, t) < 0 := by
  have hne := ordP_ne h
  unfold cfD ordD
  rw [if_neg (fun q => hne (Prod.ext q.1 q.2))]
  exact h
theorem dsE_rise : ∀ L : List EC, (L.map (·.1)).Pairwise (fun a b => ordP a b < 0) → (dsE L).Pairwise fun a b => cfD a b < 0
  | [], _ => List.Pairwise.nil
  | e :: r, h => by
    rw [List.map_cons, List.pairwise_cons] at h
    have key : ∀ s, ∀ d ∈ dsE r, cfD (e.1.1, e.1.2, s) d < 0 := fun s d hd => by
      obtain ⟨f, hf, h1, _⟩ := (dsE_mem r d).1 hd
      have := cfD_id (h.1 f.1 (List.mem_map.2 ⟨f, hf, rfl⟩)) s d.2.2
      rw [h1] at this
      exact this
    rw [dsE_cons, List.pairwise_cons, List.pairwise_cons]
    refine ⟨fun d hd => ?_, key 1, dsE_rise r h.2⟩
    rcases List.mem_cons.1 hd with rfl | hd
    · exact cfD_side _ _
    · exact key 0 d hd
section
variable {Vs : List VC} {Es : List EC}
theorem dsV_eq (Vs : List VC) : dsV Vs = ringsOf Vs := rfl
theorem Formed.rise (h : Formed Vs Es) : (dsE Es).Pairwise fun a b => cfD a b < 0 := dsE_rise Es ((riseF_iff _ _).1 h.re).2.2
theorem Formed.dsn (h : Formed Vs Es) : (dsE Es).Nodup := h.rise.imp (fun {a b} q e => by subst e; have := (cfD_zero a a).2 rfl; omega)
theorem sort_darts (h : Formed Vs Es) : sortD (dsV Vs) = dsE Es := by
  have hp : (dsV Vs).Perm (dsE Es) := (List.perm_ext_iff_of_nodup h.once h.dsn).2 fun d => (h.ds d).symm
  refine List.Perm.eq_of_pairwise (le := fun a b => cfD a b ≤ 0) (fun a b _ _ h1 h2 => ?_) ?_ (h.rise.imp (fun q => by omega)) ((List.mergeSort_perm _ _).trans hp)
  · have := cfD_neg a b
    exact (cfD_zero a b).1 (by omega)
  · have hl : ∀ a b : D, (!(ltOf cfD) b a) = true ↔ cfD a b ≤ 0 := fun a b => by
      rw [ltD]
      have := cfD_neg a b
      simp
      omega
    refine (List.pairwise_mergeSort (le := fun x y => !(ltOf cfD) y x) (fun a b c h1 h2 => ?_) (fun a b => ?_) (dsV Vs)).imp (fun {a b} q => (hl a b).1 q)
    · rw [hl] at *
      exact cfD_trans _ _ _ h1 h2
    · rw [Bool.or_eq_true, hl, hl]
      have := cfD_neg a b
      omega
end
end Go.Proofs.Ytahbfdhjgnlmdaa

/- The document's Darts. -/
namespace Go.Proofs.Ytahbfdhjgnlmdaa
open Go.RowKit
set_option linter.unusedSimpArgs false
set_option linter.unusedVariables false

end Go.Proofs.Ytahbfdhjgnlmdaa

/- Next of rings, the program's and the document's. -/
namespace Go.Proofs.Ytahbfdhjgnlmdaa
open Go.RowKit
set_option linter.unusedSimpArgs false
set_option linter.unusedVariables false

end Go.Proofs.Ytahbfdhjgnlmdaa

/- Sigma and Phi, the program's and the document's. -/
namespace Go.Proofs.Ytahbfdhjgnlmdaa
open Go.RowKit
set_option linter.unusedSimpArgs false
set_option linter.unusedVariables false


section
variable {Vs : List VC} {Es : List EC}
end
end Go.Proofs.Ytahbfdhjgnlmdaa

/- Phi, the program's and the document's. -/
namespace Go.Proofs.Ytahbfdhjgnlmdaa
open Go.RowKit
set_option linter.unusedSimpArgs false
set_option linter.unusedVariables false

end Go.Proofs.Ytahbfdhjgnlmdaa

/- The document's Trace. -/
namespace Go.Proofs.Ytahbfdhjgnlmdaa
open Go.RowKit
set_option linter.unusedSimpArgs false
set_option linter.unusedVariables false


end Go.Proofs.Ytahbfdhjgnlmdaa

/- The document's Same and Faces. -/
namespace Go.Proofs.Ytahbfdhjgnlmdaa
open Go.RowKit
set_option linter.unusedSimpArgs false
set_option linter.unusedVariables false

end Go.Proofs.Ytahbfdhjgnlmdaa

/- The document's Faces. -/
namespace Go.Proofs.Ytahbfdhjgnlmdaa
open Go.RowKit
set_option linter.unusedSimpArgs false
set_option linter.unusedVariables false


/-- Rows of one's own that do not touch each other: one that grows (T), one that is read (L), rows of rows (X). -/
structure PR (w : World) (lo : Nat) (At : Option Addr) (ct : Nat) (T : List D) (Al : Option Addr) (cl : Nat) (L : List D) (Ao : Option Addr) (co : Nat) (X : List (Rw D)) (W : World) : Prop where
  ow : Ow w lo 35 3 (.slice At T.length ct) T.length (dartsV T) W
  l : W.ownsRow lo 35 3 (.slice Al L.length cl) L.length (dartsV L)
  r : RowsIn W lo 36 35 3 encD Ao X.length co X
  nl : ∀ g, (Value.slice Al L.length cl).ownBlock = some g → (Value.slice At T.length ct).ownBlock ≠ some g
  nx : ∀ x ∈ X, ∀ g, (rwV x).ownBlock = some g → (Value.slice At T.length ct).ownBlock ≠ some g
section
variable {w W W' : World} {lo : Nat} {At : Option Addr} {ct : Nat} {T : List D} {Al : Option Addr} {cl : Nat} {L : List D} {Ao : Option Addr} {co : Nat} {X : List (Rw D)}
theorem PR.up (h : PR w lo At ct T Al cl L Ao co X W) (hb : Below W.heap.size W W') : PR w lo At ct T Al cl L Ao co X W' :=
  ⟨h.ow.up hb, own_up h.l hb, h.r.up hb, h.nl, h.nx⟩
theorem PR.bl (h : PR w lo At ct T Al cl L Ao co X W) (hb : Below W.heap.size W W') : PR w lo At ct T Al cl L Ao co X W' := h.up hb
theorem PR.al (h : PR w lo At ct T Al cl L Ao co X W) (o : Obj) : PR w lo At ct T Al cl L Ao co X (W.alloc o) := h.up (below1 W o)
theorem PR.dr (h : PR w lo At ct T Al cl L Ao co X W) : PR w lo At ct T Al cl L Ao co X W.drew := h.up ((Below.refl _ _).drew)
/-- A row more among the rows. -/
theorem PR.out (h : PR w lo At ct T Al cl L Ao co X W) (A9 : Option Addr) (c9 : Nat) (F : List D) (hf : W.ownsRow lo 35 3 (.slice A9 F.length c9) F.length (dartsV F)) (hd : ∀ y ∈ X, ∀ a b, y.1 = some a → A9 = some b → a.block ≠ b.block)
    (ht : ∀ g, (Value.slice A9 F.length c9).ownBlock = some g → (Value.slice At T.length ct).ownBlock ≠ some g) (hn : X.length ≤ 1000000) (A1 : Option Addr) (c1 : Nat) (hr : RdS W W.heap.size 1 A1 1 c1 [.slice A9 F.length c9]) :
    ∃ A' c' W', (Builtin.append_ #[85, 85] 85 #[.slice Ao X.length co, .slice A1 1 c1]).run Try.prog W = .ok (.slice A' (X.length + 1) c') W' ∧ PR w lo At ct T Al cl L A' c' (X ++ [(A9, c9, F)]) W' ∧ Below lo W W' := by
  obtain ⟨iR, hiR, hr0, hr1, hr2⟩ := info_partsD info_rowD
  obtain ⟨A', c', W2, hrun, hR, hb, hg⟩ := h.r.push (P := Try.prog) ((A9, c9, F) : Rw D) (by rw [rowsD]; exact hf) hd 85 85 iR _ Try.underlying85 hiR hr0 hr1 hr2 rfl (by decide) hn h.ow.hi A1 c1 hr
  have hk : ∀ {v : Value} {n : Nat} {xs : List Value}, W.ownsRow lo 35 3 v n xs → W2.ownsRow lo 35 3 v n xs := fun {v n xs} ho => ho.kept hg (by
    cases hv : v.ownBlock with
    | none => exact .inl rfl
    | some g => exact .inr fun q => own_two h.r.row ho (by decide) q.symm hv)
  have hlo : ∀ k, (Value.slice Ao X.length co).ownBlock = some k → lo ≤ k := fun k hk => (h.r.row.lt k hk).1
  refine ⟨A', c', W2, hrun, ⟨⟨hk h.ow.own, h.ow.below.grown hg h.ow.below.size (fun k e => Nat.le_trans h.ow.lo (hlo k e)), h.ow.lo, Nat.le_trans h.ow.hi hg.size⟩, hk h.l, ?_, h.nl, fun x hx => ?_⟩, hb⟩
  · rw [List.length_append]
    exact hR
  · rcases List.mem_append.1 hx with hx | hx
    · exact h.nx x hx
    · obtain rfl := List.mem_singleton.1 hx
      exact ht
end
structure OwnR (lo : Nat) (A9 : Option Addr) (c9 : Nat) (F : List D) (W : World) : Prop where
  own : W.ownsRow lo 35 3 (.slice A9 F.length c9) F.length (dartsV F)
theorem OwnR.bl {lo : Nat} {A9 : Option Addr} {c9 : Nat} {F : List D} {W W' : World} (h : OwnR lo A9 c9 F W) (hb : Below W.heap.size W W') : OwnR lo A9 c9 F W' := ⟨own_up h.own hb⟩
end Go.Proofs.Ytahbfdhjgnlmdaa

/- Faces of a diagram that is well formed; and the document's examples. -/
namespace Go.Proofs.Ytahbfdhjgnlmdaa
open Go.RowKit
set_option linter.unusedSimpArgs false
set_option linter.unusedVariables false


structure PreF (n : Nat) (Vs : List VC) : Prop where
  n : n ≤ 1000000
  r : ∀ x ∈ Vs, x.2.1.2.1 ≤ 1000000
  s : ∀ v ∈ Vs, ∀ d ∈ v.2.1.2.2.2, wfS d
  k : ∀ S, KeysD (sigM Vs) S → S.length ≤ 1000000
  l : (dsV Vs).length ≤ 1000000
theorem Formed.pre {A : Option Addr} {n c : Nat} {Vs : List VC} {B : Option Addr} {m k : Nat} {Es : List EC} {w : World} (hf : Formed Vs Es) (h : DgIn w A n c Vs B m k Es) (hg : GoodD Vs Es) : PreF n Vs := by
  have h8 := hf.l80
  obtain ⟨h1, h2, h3⟩ := hf.small h
  exact ⟨by omega, fun x hx => by have := h3 x hx; omega, fun v hv d hd => hf.wfS hg (ring_mem.2 ⟨v, hv, hd⟩), fun S hS => by have := hS.formed hf hg; omega, by rw [dsV_eq]; omega⟩
theorem faces5_any (A : Option Addr) (n c : Nat) (Vs : List VC) (B : Option Addr) (m k : Nat) (Es : List EC) (w : World) (h : DgIn w A n c Vs B m k Es) (hf : Formed Vs Es) (hg : GoodD Vs Es) :
    Calls Try.prog 53 #[.agg #[.slice A n c, .slice B m k]] w fun e w' => ∃ A' c' X, e = .returned (.slice A' X.length c') ∧ RowsIn w' (w.heap.size + 1) 36 35 3 encD A' X.length c' X ∧ X.map (·.2.2) = orbsF (phF Vs) 80 (dsE Es) [] ∧ Below w.heap.size w w' := by
  have hp := hf.pre h hg
  refine (faces_any A n c Vs B m k Es w h hp.n hp.r hp.s hp.k hp.l).mono ?_
  rintro e w' ⟨S, A', c', X, hS, rfl, hR, hX, hb⟩
  rw [sort_darts hf, facesF_eq hf (by rw [hS.formed hf hg]; exact Nat.le_refl _) _ _ (fun x hx => (hf.ds x).1 hx)] at hX
  exact ⟨A', c', X, rfl, hR, hX, hb⟩
end Go.Proofs.Ytahbfdhjgnlmdaa

/- How many vertices, edges, faces and parts there are; the genus. -/
namespace Go.Proofs.Ytahbfdhjgnlmdaa
open Go.RowKit
set_option linter.unusedSimpArgs false
set_option linter.unusedVariables false


def alB (v : VC) : Bool := decide (v.2.1.2.2.2 = [])
theorem alone_next {Vs : List VC} {j : Nat} {v : VC} (h : Vs[j]? = some v) : ((Vs.take (j + 1)).filter alB).length = ((Vs.take j).filter alB).length + if alB v then 1 else 0 := by
  rw [List.take_add_one, h, List.filter_append, List.length_append]
  congr 1
  simp only [Option.toList_some, List.filter_cons, List.filter_nil]
  split <;> rfl
theorem alone_le (Vs : List VC) : aloneN Vs ≤ Vs.length := List.length_filter_le _ _
theorem alB_len {v : VC} {rn : Nat} (h : v.2.1.2.2.2.length = rn) : ((rn : Int) == 0) = alB v := by
  unfold alB
  cases hR : v.2.1.2.2.2 with
  | nil => rw [hR] at h; subst h; rfl
  | cons a r =>
    rw [hR, List.length_cons] at h
    subst h
    simp
    omega
set_option maxRecDepth 100000 in
set_option maxHeartbeats 4000000 in
theorem cnt1 (v : VC) (w : World) (hr : v.2.1.2.2.2.length = v.2.1.2.1) : Calls Try.prog 52 #[.agg (vC v).toArray] w fun e w' => e = .returned (.bool (alB v)) ∧ Below w.heap.size w w' := by
  have hb := alB_len hr
  obtain ⟨b, gb⟩ : ∃ z, alB v = z := ⟨_, rfl⟩
  rw [gb] at hb ⊢
  clear gb hr
  obtain ⟨⟨i1, i2⟩, ⟨rA, rn, rc, rL⟩, lb, at_⟩ := v
  replace hb : ((rn : Int) == 0) = b := hb
  show Calls Try.prog 52 #[.agg #[.int .i64 i1, .int .i64 i2, .slice rA rn rc, .string lb, .int .i64 at_]] w _
  go_enter Try.func52, Try.ntmps52
  go_wp2
  exact bodyPost_ret (v := .bool b) (by simp [results, Try.results52, go_sem, hb]) rfl ⟨rfl, below1 _ _⟩
set_option maxRecDepth 100000 in
set_option maxHeartbeats 4000000 in
theorem ecount1 (A : Option Addr) (n c : Nat) (Vs : List VC) (w : World) (h : RdS w w.heap.size 5 A n c (rowsV vC Vs)) (hn : n ≤ 1000000) (hr : ∀ v ∈ Vs, v.2.1.2.2.2.length = v.2.1.2.1) :
    Calls Try.prog 51 #[.slice A n c, .func (.func 52) #[] #[]] w fun e w' => e = .returned (.int .i64 ((aloneN Vs : Nat) : Int)) ∧ Below w.heap.size w w' := by
  have hl := h.rlen vC_len (by decide)
  have H := Lib.hid h
  have Hl := Lib.hid hl
  have Hr := Lib.hid hr
  have HE := Lib.hid (ent_of (k := 52) Try.func52 (by kernel_rfl) rfl)
  have HG : RowKit.Hid (aloneN Vs = ((Vs.take n).filter alB).length) := Lib.hid (by rw [List.take_of_length_le (by omega)]; rfl)
  obtain ⟨an, gan⟩ : ∃ z, aloneN Vs = z := ⟨_, rfl⟩
  rw [gan] at HG ⊢
  clear h hl hr gan
  go_enter Try.func51, Try.ntmps51
  go_wp2
  go_loopw [5, 10] (fun sn si wr => ∃ (j q : Nat), j ≤ n ∧ si = .int .i64 j ∧ sn = .int .i64 (q : Int) ∧ RowKit.Hid (Below w.heap.size w wr) ∧ RowKit.Hid (((Vs.take j).filter alB).length = q)) (fun _ si _ => n - (intOf si).toNat)
  case atStart => exact ⟨0, 0, by omega, rfl, rfl, Lib.hid (Below.refl _ _), Lib.hid rfl⟩
  case round =>
    obtain ⟨j, q, hj, rfl, rfl, HB, HQ⟩ := hrel
    have hqj : q ≤ j := by
      have h1 := List.length_filter_le alB (Vs.take j)
      rw [HQ.out, List.length_take] at h1
      omega
    by_cases hjn : j < n
    · obtain ⟨v, hx⟩ : ∃ v, Vs[j]? = some v := ⟨_, List.getElem?_eq_getElem (by have := Hl.out; omega)⟩
      have hnx := alone_next hx
      rw [HQ.out] at hnx
      have hcn := fun W => cnt1 v W (Hr.out v (List.mem_of_getElem? hx))
      obtain ⟨b, gb⟩ : ∃ z, alB v = z := ⟨_, rfl⟩
      rw [gb] at hcn hnx
      obtain ⟨bb, off, rfl, hbB, hpl⟩ := H.out.place vC_len (by decide) (by omega)
      have hbw := HB.out
      have q0 := hpl j _ hx 0 _ rfl
      have q1 := hpl j _ hx 1 _ rfl
      have q2 := hpl j _ hx 2 _ rfl
      have q3 := hpl j _ hx 3 _ rfl
      have q4 := hpl j _ hx 4 _ rfl
      simp only [Addr.add_lit, Nat.add_zero] at q0 q1 q2 q3 q4
      have l0 := (hbw.cell (p := ⟨bb, off + j * 5, none⟩) hbB).trans q0
      have l1 := (hbw.cell (p := ⟨bb, off + j * 5 + 1, none⟩) hbB).trans q1
      have l2 := (hbw.cell (p := ⟨bb, off + j * 5 + 2, none⟩) hbB).trans q2
      have l3 := (hbw.cell (p := ⟨bb, off + j * 5 + 3, none⟩) hbB).trans q3
      have l4 := (hbw.cell (p := ⟨bb, off + j * 5 + 4, none⟩) hbB).trans q4
      clear hbw q0 q1 q2 q3 q4
      obtain ⟨⟨i1, i2⟩, ⟨rA, rn, rc, rL⟩, lb, at_⟩ := v
      replace hcn : ∀ W, Calls Try.prog 52 #[.agg #[.int .i64 i1, .int .i64 i2, .slice rA rn rc, .string lb, .int .i64 at_]] W fun e w' => e = .returned (.bool b) ∧ Below W.heap.size W w' := hcn
      have HC := Lib.hid hcn
      have Hnx := Lib.hid hnx
      clear hx hpl hcn hbB gb hnx
      go_wp2_with fail
      refine (HC.out _).mono ?_
      rintro e w3 ⟨rfl, hb3⟩
      have HB3 : RowKit.Hid (Below w.heap.size w w3) := Lib.hid (bel_bl (bel_al HB.out (.cells #[.int .i64 i1, .int .i64 i2, .slice rA rn rc, .string lb, .int .i64 at_] 38)) hb3)
      clear hb3 l0 l1 l2 l3 l4
      cases b with
      | false =>
        go_wp2
        go_roundw
        case rel => exact ⟨j + 1, q, by omega, by go_num, rfl, HB3, Lib.hid Hnx.out⟩
        case measure => simp [intOf]; omega
      | true =>
        have hwq : IntKind.i64.wrap ((q : Int) + 1) = ((q + 1 : Nat) : Int) := by rw [IntWalk.i64_in _ (by omega)]; rfl
        go_wp2
        go_roundw
        case rel => exact ⟨j + 1, q + 1, by omega, by go_num, by go_num, HB3, Lib.hid Hnx.out⟩
        case measure => simp [intOf]; omega
    · obtain rfl : n = j := by omega
      have hq : q = an := by rw [HG.out, HQ.out]
      subst hq
      go_wp2
      go_ret
      exact ⟨rfl, HB.out⟩
end Go.Proofs.Ytahbfdhjgnlmdaa

/- Counts of layer 7. -/
namespace Go.Proofs.Ytahbfdhjgnlmdaa
open Go.RowKit
set_option linter.unusedSimpArgs false
set_option linter.unusedVariables false

set_option maxRecDepth 100000 in
set_option maxHeartbeats 4000000 in
theorem ecnt_any (A : Option Addr) (n c : Nat) (Vs : List VC) (B : Option Addr) (m k : Nat) (Es : List EC) (F C : Nat) (w : World) (h : DgIn w A n c Vs B m k Es) (hn : n ≤ 1000000) (hm : m ≤ 1000000) (hF : F ≤ 1000000) (hC : C ≤ 1000000) (HF : ∀ W, DgIn W A n c Vs B m k Es → Calls Try.prog 53 #[.agg #[.slice A n c, .slice B m k]] W fun e w' => ∃ A' c', e = .returned (.slice A' F c') ∧ Below W.heap.size W w') (HC : ∀ W, DgIn W A n c Vs B m k Es → Calls Try.prog 54 #[.agg #[.slice A n c, .slice B m k]] W fun e w' => e = .returned (.int .i64 ((C : Nat) : Int)) ∧ Below W.heap.size W w') :
    Calls Try.prog 37 #[.agg #[.slice A n c, .slice B m k]] w fun e w' => e = .returned (.tuple #[.int .i64 (n : Int), .int .i64 (m : Int), .int .i64 ((F + aloneN Vs : Nat) : Int), .int .i64 (C : Int)]) ∧ Below w.heap.size w w' := by
  have HDa := Lib.hid h
  have hr : ∀ v ∈ Vs, v.2.1.2.2.2.length = v.2.1.2.1 := fun v hv => (h.r v hv).2.dlen
  have HC1 := Lib.hid (fun W (hv : RdS W W.heap.size 5 A n c (rowsV vC Vs)) => ecount1 A n c Vs W hv hn hr)
  have hl := h.v.rlen vC_len (by decide)
  have hal := alone_le Vs
  rw [hl] at hal
  obtain ⟨an, gan⟩ : ∃ z, aloneN Vs = z := ⟨_, rfl⟩
  rw [gan] at HC1 hal ⊢
  have HFf := Lib.hid HF
  have HCc := Lib.hid HC
  obtain ⟨ft, gft⟩ : ∃ z, F + an = z := ⟨_, rfl⟩
  have hw1 : IntKind.i64.wrap ((F : Int) + (an : Int)) = (ft : Int) := by rw [IntWalk.i64_in _ (by omega)]; omega
  rw [gft]
  clear gft
  clear h hr hl gan HF HC
  go_enter Try.func37, Try.ntmps37
  have lw1 : ((w.alloc (.cells #[.slice A n c, .slice B m k] 25))).cell? ⟨w.heap.size, 0, none⟩ = some (.slice A n c) := (show Whole (w.alloc (.cells #[.slice A n c, .slice B m k] 25)) (w.heap.size) (25) ([.slice A n c, .slice B m k]) from Whole.new2 (by first | rfl | simp)).cell (i := 0) rfl
  go_wp2_with fail
  clear lw1
  refine (HC1.out _ (DgIn.v (HDa.out.al (.cells #[.slice A n c, .slice B m k] 25)))).mono ?_
  rintro e w2 ⟨rfl, hb2⟩
  have Da_3 := Lib.hid ((HDa.out.al (.cells #[.slice A n c, .slice B m k] 25)).bl hb2)
  have D0_3 := Lib.hid ((show Whole (w.alloc (.cells #[.slice A n c, .slice B m k] 25)) (w.heap.size) (25) ([.slice A n c, .slice B m k]) from Whole.new2 (by first | rfl | simp)).bl hb2)
  have Bel_3 := Lib.hid (bel_bl (bel_al (Below.refl _ w) (.cells #[.slice A n c, .slice B m k] 25)) hb2)
  clear HDa
  clear hb2
  go_upto_region 2 with fail
  have Da_4 := Lib.hid (Da_3.out.dr)
  have D0_4 := Lib.hid (D0_3.out.dr)
  have Bel_4 := Lib.hid (bel_dr Bel_3.out)
  have ld5 : ∀ w', Kept Nil_ w2.drew w' → w'.cell? ⟨w.heap.size, 0, none⟩ = some (.slice A n c) := fun w' h => h.nil_cell (D0_4.out.cell (i := 0) rfl)
  have ld6 : ∀ w', Kept Nil_ w2.drew w' → w'.cell? ⟨w.heap.size, 1, none⟩ = some (.slice B m k) := fun w' h => h.nil_cell (D0_4.out.cell (i := 1) rfl)
  refine wp_region_reg Nil_ (by kernel_rfl) ?_
  apply wpR_next 0 (some 10)
  · simp only [List.getElem?_toArray, List.getElem?_cons_succ, List.getElem?_cons_zero]; exact rfl
  · rfl
  · kernel_rfl
  · kernel_rfl
  · kernel_rfl
  · exact fun _ _ _ _ h => h
  apply Exists.intro
  apply And.intro
  · apply yr_run; rfl; intro w' hw'; go_simp; (try with_reducible rfl)
  simp only [Act.put, List.setIfInBounds_toArray, List.set_cons_zero, List.set_cons_succ]
  apply wpR_next 1 (some 11)
  · simp only [List.getElem?_toArray, List.getElem?_cons_succ, List.getElem?_cons_zero]; exact rfl
  · rfl
  · kernel_rfl
  · kernel_rfl
  · kernel_rfl
  · exact fun _ _ _ _ h => h
  apply Exists.intro
  apply And.intro
  · apply yr_run; rfl; intro w' hw'; go_simp; (try with_reducible rfl)
  simp only [Act.put, List.setIfInBounds_toArray, List.set_cons_zero, List.set_cons_succ]
  apply wpR_next 2 (some 12)
  · simp only [List.getElem?_toArray, List.getElem?_cons_succ, List.getElem?_cons_zero]; exact rfl
  · rfl
  · kernel_rfl
  · kernel_rfl
  · kernel_rfl
  · exact fun _ _ _ _ h => h
  apply Exists.intro
  apply And.intro
  · apply yr_run; rfl; intro w' hw'; go_simp; (try with_reducible rfl)
  simp only [Act.put, List.setIfInBounds_toArray, List.set_cons_zero, List.set_cons_succ]
  apply wpR_next 3 (some 13)
  · simp only [List.getElem?_toArray, List.getElem?_cons_succ, List.getElem?_cons_zero]; exact rfl
  · rfl
  · kernel_rfl
  · kernel_rfl
  · kernel_rfl
  · exact fun _ _ _ _ h => h
  apply Exists.intro
  apply And.intro
  · apply yr_run; rfl; intro w' hw'; go_simp; (try with_reducible rfl)
  simp only [Act.put, List.setIfInBounds_toArray, List.set_cons_zero, List.set_cons_succ]
  apply wpR_next 4 (some 14)
  · simp only [List.getElem?_toArray, List.getElem?_cons_succ, List.getElem?_cons_zero]; exact rfl
  · rfl
  · kernel_rfl
  · kernel_rfl
  · kernel_rfl
  · exact fun _ _ _ _ h => h
  apply Exists.intro
  apply And.intro
  · apply yr_run; rfl; intro w' hw'; go_simp; (try with_reducible rfl)
  simp only [Act.put, List.setIfInBounds_toArray, List.set_cons_zero, List.set_cons_succ]
  apply wpR_next 5 (some 15)
  · simp only [List.getElem?_toArray, List.getElem?_cons_succ, List.getElem?_cons_zero]; exact rfl
  · rfl
  · kernel_rfl
  · kernel_rfl
  · kernel_rfl
  · exact fun _ _ _ _ h => h
  apply Exists.intro
  apply And.intro
  · apply yr_run; rfl; intro w' hw'; go_simp; (try with_reducible rfl)
  simp only [Act.put, List.setIfInBounds_toArray, List.set_cons_zero, List.set_cons_succ]
  apply wpR_next 6 (some 16)
  · simp only [List.getElem?_toArray, List.getElem?_cons_succ, List.getElem?_cons_zero]; exact rfl
  · rfl
  · kernel_rfl
  · kernel_rfl
  · kernel_rfl
  · exact fun _ _ _ _ h => h
  apply Exists.intro
  apply And.intro
  · apply yr_run; rfl; intro w' hw'; go_simp; (try with_reducible rfl)
  simp only [Act.put, List.setIfInBounds_toArray, List.set_cons_zero, List.set_cons_succ]
  apply wpR_next 9 (some 19)
  · simp only [List.getElem?_toArray, List.getElem?_cons_succ, List.getElem?_cons_zero]; exact rfl
  · rfl
  · kernel_rfl
  · kernel_rfl
  · kernel_rfl
  · exact fun _ _ _ _ h => h
  apply Exists.intro
  apply And.intro
  · apply yr_run; rfl; intro w' hw'; go_simp; (try with_reducible rfl)
  simp only [Act.put, List.setIfInBounds_toArray, List.set_cons_zero, List.set_cons_succ]
  apply wpR_next 11 (some 21)
  · simp only [List.getElem?_toArray, List.getElem?_cons_succ, List.getElem?_cons_zero]; exact rfl
  · rfl
  · kernel_rfl
  · kernel_rfl
  · kernel_rfl
  · exact fun _ _ _ _ h => h
  apply Exists.intro
  apply And.intro
  · apply yr_run; rfl; intro w' hw'; go_simp; (try with_reducible rfl)
  simp only [Act.put, List.setIfInBounds_toArray, List.set_cons_zero, List.set_cons_succ]
  apply wpR_call 7 (some 17)
  · simp only [List.getElem?_toArray, List.getElem?_cons_succ, List.getElem?_cons_zero]; exact rfl
  · rfl
  · kernel_rfl
  · rfl
  · intro w'; go_simp; first | done | exact ⟨rfl, rfl⟩ | with_reducible rfl
  intro w' hw'
  refine (HFf.out _ (Da_4.out.bl hw')).mono ?_
  rintro e w7 ⟨A5, c5, rfl, hb7⟩
  have Da_7 := Lib.hid ((Da_4.out.bl hw').bl hb7)
  have D0_7 := Lib.hid ((D0_4.out.bl hw').bl hb7)
  have Bel_7 := Lib.hid (bel_bl (bel_bl Bel_4.out hw') hb7)
  have ld8 := fun w'' (h : Kept Nil_ w7 w'') => ld5 w'' ((Kept.of_ext hw').trans ((Kept.of_below hb7).trans h))
  have ld9 := fun w'' (h : Kept Nil_ w7 w'') => ld6 w'' ((Kept.of_ext hw').trans ((Kept.of_below hb7).trans h))
  refine ⟨_, rfl, Kept.of_below hb7, ?_⟩
  clear hw' hb7
  simp only [Act.put, List.setIfInBounds_toArray, List.set_cons_zero, List.set_cons_succ]
  apply wpR_next 8 (some 18)
  · simp only [List.getElem?_toArray, List.getElem?_cons_succ, List.getElem?_cons_zero]; exact rfl
  · rfl
  · kernel_rfl
  · kernel_rfl
  · kernel_rfl
  · exact fun _ _ _ _ h => h
  apply Exists.intro
  apply And.intro
  · apply yr_run; rfl; intro w' hw'; go_simp; (try with_reducible rfl)
  simp only [Act.put, List.setIfInBounds_toArray, List.set_cons_zero, List.set_cons_succ]
  apply wpR_next 10 (some 20)
  · simp only [List.getElem?_toArray, List.getElem?_cons_succ, List.getElem?_cons_zero]; exact rfl
  · rfl
  · kernel_rfl
  · kernel_rfl
  · kernel_rfl
  · exact fun _ _ _ _ h => h
  apply Exists.intro
  apply And.intro
  · apply yr_run; rfl; intro w' hw'; go_simp; (try with_reducible rfl)
  simp only [Act.put, List.setIfInBounds_toArray, List.set_cons_zero, List.set_cons_succ]
  apply wpR_call 12 (some 22)
  · simp only [List.getElem?_toArray, List.getElem?_cons_succ, List.getElem?_cons_zero]; exact rfl
  · rfl
  · kernel_rfl
  · rfl
  · intro w'; go_simp; first | done | exact ⟨rfl, rfl⟩ | with_reducible rfl
  intro w' hw'
  refine (HCc.out _ (Da_7.out.bl hw')).mono ?_
  rintro e w10 ⟨rfl, hb10⟩
  have Da_10 := Lib.hid ((Da_7.out.bl hw').bl hb10)
  have D0_10 := Lib.hid ((D0_7.out.bl hw').bl hb10)
  have Bel_10 := Lib.hid (bel_bl (bel_bl Bel_7.out hw') hb10)
  have ld11 := fun w'' (h : Kept Nil_ w10 w'') => ld8 w'' ((Kept.of_ext hw').trans ((Kept.of_below hb10).trans h))
  have ld12 := fun w'' (h : Kept Nil_ w10 w'') => ld9 w'' ((Kept.of_ext hw').trans ((Kept.of_below hb10).trans h))
  refine ⟨_, rfl, Kept.of_below hb10, ?_⟩
  clear hw' hb10
  simp only [Act.put, List.setIfInBounds_toArray, List.set_cons_zero, List.set_cons_succ]
  apply wpR_next 13 (some 2)
  · simp only [List.getElem?_toArray, List.getElem?_cons_succ, List.getElem?_cons_zero]; exact rfl
  · rfl
  · kernel_rfl
  · kernel_rfl
  · kernel_rfl
  · exact fun _ _ _ _ h => h
  apply Exists.intro
  apply And.intro
  · apply yr_run; rfl; intro w' hw'; go_simp; (try with_reducible rfl)
  simp only [Act.put, List.setIfInBounds_toArray, List.set_cons_zero, List.set_cons_succ]
  apply wpR_next 14 (some 3)
  · simp only [List.getElem?_toArray, List.getElem?_cons_succ, List.getElem?_cons_zero]; exact rfl
  · rfl
  · kernel_rfl
  · kernel_rfl
  · kernel_rfl
  · exact fun _ _ _ _ h => h
  apply Exists.intro
  apply And.intro
  · apply yr_run; rfl; intro w' hw'; go_simp; (try with_reducible rfl)
  simp only [Act.put, List.setIfInBounds_toArray, List.set_cons_zero, List.set_cons_succ]
  apply wpR_next 15 (some 4)
  · simp only [List.getElem?_toArray, List.getElem?_cons_succ, List.getElem?_cons_zero]; exact rfl
  · rfl
  · kernel_rfl
  · kernel_rfl
  · kernel_rfl
  · exact fun _ _ _ _ h => h
  apply Exists.intro
  apply And.intro
  · apply yr_run; rfl; intro w' hw'; go_simp; (try with_reducible rfl)
  simp only [Act.put, List.setIfInBounds_toArray, List.set_cons_zero, List.set_cons_succ]
  apply wpR_next 16 (some 5)
  · simp only [List.getElem?_toArray, List.getElem?_cons_succ, List.getElem?_cons_zero]; exact rfl
  · rfl
  · kernel_rfl
  · kernel_rfl
  · kernel_rfl
  · exact fun _ _ _ _ h => h
  apply Exists.intro
  apply And.intro
  · apply yr_run; rfl; intro w' hw'; go_simp; (try with_reducible rfl)
  simp only [Act.put, List.setIfInBounds_toArray, List.set_cons_zero, List.set_cons_succ]
  refine wpR_done (by kernel_rfl) ?_ _
  intro w13 hw'
  have Da_14 := Lib.hid (Da_10.out.bl hw')
  have D0_14 := Lib.hid (D0_10.out.bl hw')
  have Bel_14 := Lib.hid (bel_bl Bel_10.out hw')
  clear Da_10 D0_10 Bel_10
  clear hw'
  go_wp2
  exact bodyPost_ret (v := .tuple #[.int .i64 (n : Int), .int .i64 (m : Int), .int .i64 (ft : Int), .int .i64 (C : Int)]) (by simp [results, Try.results37, go_sem]) rfl ⟨rfl, Bel_14.out⟩
end Go.Proofs.Ytahbfdhjgnlmdaa

/- Counts of layer 7. -/
namespace Go.Proofs.Ytahbfdhjgnlmdaa
open Go.RowKit
set_option linter.unusedSimpArgs false
set_option linter.unusedVariables false

end Go.Proofs.Ytahbfdhjgnlmdaa

/- Counts of layer 7. -/
namespace Go.Proofs.Ytahbfdhjgnlmdaa
open Go.RowKit
set_option linter.unusedSimpArgs false
set_option linter.unusedVariables false

set_option maxRecDepth 100000 in
set_option maxHeartbeats 4000000 in
theorem egenus_any (A : Option Addr) (n c : Nat) (Vs : List VC) (B : Option Addr) (m k : Nat) (Es : List EC) (f C : Nat) (g : Int) (w : World) (h : DgIn w A n c Vs B m k Es) (hn : n ≤ 1000000) (hm : m ≤ 1000000) (hf : f ≤ 2000000) (hC : C ≤ 1000000) (hg : (2 * (C : Int) - n + m - f).tdiv 2 = g)
    (HN : ∀ W, DgIn W A n c Vs B m k Es → Calls Try.prog 37 #[.agg #[.slice A n c, .slice B m k]] W fun e w' => e = .returned (.tuple #[.int .i64 (n : Int), .int .i64 (m : Int), .int .i64 (f : Int), .int .i64 (C : Int)]) ∧ Below W.heap.size W w') :
    Calls Try.prog 13 #[.agg #[.slice A n c, .slice B m k]] w fun e w' => e = .returned (.int .i64 g) ∧ Below w.heap.size w w' := by
  have HDa := Lib.hid h
  have HNn := Lib.hid HN
  have h1 : IntKind.i64.wrap (2 * (C : Int)) = 2 * (C : Int) := IntWalk.i64_in _ (by omega)
  have h2 : IntKind.i64.wrap (2 * (C : Int) - (n : Int)) = 2 * (C : Int) - (n : Int) := IntWalk.i64_in _ (by omega)
  have h3 : IntKind.i64.wrap (2 * (C : Int) - (n : Int) + (m : Int)) = 2 * (C : Int) - (n : Int) + (m : Int) := IntWalk.i64_in _ (by omega)
  have h4 : IntKind.i64.wrap (2 * (C : Int) - (n : Int) + (m : Int) - (f : Int)) = 2 * (C : Int) - (n : Int) + (m : Int) - (f : Int) := IntWalk.i64_in _ (by omega)
  have hgb : -9223372036854775808 ≤ g ∧ g ≤ 9223372036854775807 := by
    rw [← hg]
    have q1 : -(8000000 : Int) ≤ (2 * (C : Int) - n + m - f) := by omega
    have q2 : (2 * (C : Int) - n + m - f) ≤ 8000000 := by omega
    generalize (2 * (C : Int) - (n : Int) + m - f) = x at q1 q2
    rcases Int.le_total 0 x with q | q
    · rw [Int.tdiv_eq_ediv_of_nonneg q]; omega
    · have e : x.tdiv 2 = -((-x) / 2) := by rw [← Int.tdiv_eq_ediv_of_nonneg (show (0 : Int) ≤ -x by omega), Int.neg_tdiv, Int.neg_neg]
      rw [e]
      omega
  have h5 : IntKind.i64.wrap ((2 * (C : Int) - (n : Int) + (m : Int) - (f : Int)).tdiv 2) = g := by rw [hg]; exact IntWalk.i64_in _ hgb
  clear h HN hg hgb
  go_enter Try.func13, Try.ntmps13
  have lw1 : ((w.alloc (.cells #[.slice A n c, .slice B m k] 25))).cell? ⟨w.heap.size, 0, none⟩ = some (.slice A n c) := (show Whole (w.alloc (.cells #[.slice A n c, .slice B m k] 25)) (w.heap.size) (25) ([.slice A n c, .slice B m k]) from Whole.new2 (by first | rfl | simp)).cell (i := 0) rfl
  have lw2 : ((w.alloc (.cells #[.slice A n c, .slice B m k] 25))).cell? ⟨w.heap.size, 1, none⟩ = some (.slice B m k) := (show Whole (w.alloc (.cells #[.slice A n c, .slice B m k] 25)) (w.heap.size) (25) ([.slice A n c, .slice B m k]) from Whole.new2 (by first | rfl | simp)).cell (i := 1) rfl
  go_wp2_with fail
  clear lw1 lw2
  refine (HNn.out _ (HDa.out.al (.cells #[.slice A n c, .slice B m k] 25))).mono ?_
  rintro e w3 ⟨rfl, hb3⟩
  have Da_4 := Lib.hid ((HDa.out.al (.cells #[.slice A n c, .slice B m k] 25)).bl hb3)
  have D0_4 := Lib.hid ((show Whole (w.alloc (.cells #[.slice A n c, .slice B m k] 25)) (w.heap.size) (25) ([.slice A n c, .slice B m k]) from Whole.new2 (by first | rfl | simp)).bl hb3)
  have Bel_4 := Lib.hid (bel_bl (bel_al (Below.refl _ w) (.cells #[.slice A n c, .slice B m k] 25)) hb3)
  clear HDa
  clear hb3
  go_wp2
  go_ret
  exact ⟨by first | rfl | (rw [h5]) | simp [h5], Bel_4.out⟩
set_option maxRecDepth 100000 in
set_option maxHeartbeats 4000000 in
theorem eplan_any (A : Option Addr) (n c : Nat) (Vs : List VC) (B : Option Addr) (m k : Nat) (Es : List EC) (g : Int) (w : World) (h : DgIn w A n c Vs B m k Es) (HG : ∀ W, DgIn W A n c Vs B m k Es → Calls Try.prog 13 #[.agg #[.slice A n c, .slice B m k]] W fun e w' => e = .returned (.int .i64 g) ∧ Below W.heap.size W w') :
    Calls Try.prog 14 #[.agg #[.slice A n c, .slice B m k]] w fun e w' => e = .returned (.bool (g == 0)) ∧ Below w.heap.size w w' := by
  have HDa := Lib.hid h
  have HGg := Lib.hid HG
  obtain ⟨b, gb⟩ : ∃ z, (g == 0) = z := ⟨_, rfl⟩
  rw [gb]
  clear h HG
  go_enter Try.func14, Try.ntmps14
  have lw1 : ((w.alloc (.cells #[.slice A n c, .slice B m k] 25))).cell? ⟨w.heap.size, 0, none⟩ = some (.slice A n c) := (show Whole (w.alloc (.cells #[.slice A n c, .slice B m k] 25)) (w.heap.size) (25) ([.slice A n c, .slice B m k]) from Whole.new2 (by first | rfl | simp)).cell (i := 0) rfl
  have lw2 : ((w.alloc (.cells #[.slice A n c, .slice B m k] 25))).cell? ⟨w.heap.size, 1, none⟩ = some (.slice B m k) := (show Whole (w.alloc (.cells #[.slice A n c, .slice B m k] 25)) (w.heap.size) (25) ([.slice A n c, .slice B m k]) from Whole.new2 (by first | rfl | simp)).cell (i := 1) rfl
  go_wp2_with fail
  clear lw1 lw2
  refine (HGg.out _ (HDa.out.al (.cells #[.slice A n c, .slice B m k] 25))).mono ?_
  rintro e w3 ⟨rfl, hb3⟩
  have Da_4 := Lib.hid ((HDa.out.al (.cells #[.slice A n c, .slice B m k] 25)).bl hb3)
  have D0_4 := Lib.hid ((show Whole (w.alloc (.cells #[.slice A n c, .slice B m k] 25)) (w.heap.size) (25) ([.slice A n c, .slice B m k]) from Whole.new2 (by first | rfl | simp)).bl hb3)
  have Bel_4 := Lib.hid (bel_bl (bel_al (Below.refl _ w) (.cells #[.slice A n c, .slice B m k] 25)) hb3)
  clear HDa
  clear hb3
  go_wp2
  go_ret
  exact ⟨by first | rfl | (rw [gb]) | simp [gb], Bel_4.out⟩
set_option maxRecDepth 100000 in
set_option maxHeartbeats 4000000 in
theorem emay_any (A : Option Addr) (n c : Nat) (Vs : List VC) (B : Option Addr) (m k : Nat) (Es : List EC) (e : Int) (g : Int) (w : World) (h : DgIn w A n c Vs B m k Es) (HM : ∀ W, DgIn W A n c Vs B m k Es → Calls Try.prog 55 #[.agg #[.slice A n c, .slice B m k]] W fun r w' => r = .returned (.int .i64 e) ∧ Below W.heap.size W w')
    (HG : e = 0 → ∀ W, DgIn W A n c Vs B m k Es → Calls Try.prog 14 #[.agg #[.slice A n c, .slice B m k]] W fun r w' => r = .returned (.bool (g == 0)) ∧ Below W.heap.size W w') :
    Calls Try.prog 41 #[.agg #[.slice A n c, .slice B m k]] w fun r w' => r = .returned (.int .i64 (if e = 0 then (if g = 0 then 0 else 11) else e)) ∧ Below w.heap.size w w' := by
  have HDa := Lib.hid h
  have HMm := Lib.hid HM
  have HGg := Lib.hid HG
  clear h HM HG
  by_cases he : e = 0
  · subst he
    rw [if_pos rfl]
    replace HGg := Lib.hid (HGg.out rfl)
    by_cases hg : g = 0
    · rw [if_pos hg]
      subst hg
      rw [show ((0 : Int) == 0) = true from rfl] at HGg
      go_enter Try.func41, Try.ntmps41
      have lw1 : ((w.alloc (.cells #[.slice A n c, .slice B m k] 25))).cell? ⟨w.heap.size, 0, none⟩ = some (.slice A n c) := (show Whole (w.alloc (.cells #[.slice A n c, .slice B m k] 25)) (w.heap.size) (25) ([.slice A n c, .slice B m k]) from Whole.new2 (by first | rfl | simp)).cell (i := 0) rfl
      have lw2 : ((w.alloc (.cells #[.slice A n c, .slice B m k] 25))).cell? ⟨w.heap.size, 1, none⟩ = some (.slice B m k) := (show Whole (w.alloc (.cells #[.slice A n c, .slice B m k] 25)) (w.heap.size) (25) ([.slice A n c, .slice B m k]) from Whole.new2 (by first | rfl | simp)).cell (i := 1) rfl
      go_wp2_with fail
      clear lw1 lw2
      refine (HMm.out _ (HDa.out.al (.cells #[.slice A n c, .slice B m k] 25))).mono ?_
      rintro e w3 ⟨rfl, hb3⟩
      have Da_4 := Lib.hid ((HDa.out.al (.cells #[.slice A n c, .slice B m k] 25)).bl hb3)
      have D0_4 := Lib.hid ((show Whole (w.alloc (.cells #[.slice A n c, .slice B m k] 25)) (w.heap.size) (25) ([.slice A n c, .slice B m k]) from Whole.new2 (by first | rfl | simp)).bl hb3)
      have Bel_4 := Lib.hid (bel_bl (bel_al (Below.refl _ w) (.cells #[.slice A n c, .slice B m k] 25)) hb3)
      clear HDa
      clear hb3
      have lw5 : (w3).cell? ⟨w.heap.size, 0, none⟩ = some (.slice A n c) := D0_4.out.cell (i := 0) rfl
      have lw6 : (w3).cell? ⟨w.heap.size, 1, none⟩ = some (.slice B m k) := D0_4.out.cell (i := 1) rfl
      go_wp2_with fail
      clear lw5 lw6
      refine (HGg.out _ Da_4.out).mono ?_
      rintro e w7 ⟨rfl, hb7⟩
      have Da_8 := Lib.hid (Da_4.out.bl hb7)
      have D0_8 := Lib.hid (D0_4.out.bl hb7)
      have Bel_8 := Lib.hid (bel_bl Bel_4.out hb7)
      clear Da_4 D0_4 Bel_4
      clear hb7
      go_wp2
      go_ret
      exact ⟨rfl, Bel_8.out⟩
    · rw [if_neg hg]
      have hg2 : (g != 0) = true := by simp [hg]
      rw [show (g == 0) = false from beq_eq_false_iff_ne.2 hg] at HGg
      go_enter Try.func41, Try.ntmps41
      have lw1 : ((w.alloc (.cells #[.slice A n c, .slice B m k] 25))).cell? ⟨w.heap.size, 0, none⟩ = some (.slice A n c) := (show Whole (w.alloc (.cells #[.slice A n c, .slice B m k] 25)) (w.heap.size) (25) ([.slice A n c, .slice B m k]) from Whole.new2 (by first | rfl | simp)).cell (i := 0) rfl
      have lw2 : ((w.alloc (.cells #[.slice A n c, .slice B m k] 25))).cell? ⟨w.heap.size, 1, none⟩ = some (.slice B m k) := (show Whole (w.alloc (.cells #[.slice A n c, .slice B m k] 25)) (w.heap.size) (25) ([.slice A n c, .slice B m k]) from Whole.new2 (by first | rfl | simp)).cell (i := 1) rfl
      go_wp2_with fail
      clear lw1 lw2
      refine (HMm.out _ (HDa.out.al (.cells #[.slice A n c, .slice B m k] 25))).mono ?_
      rintro e w3 ⟨rfl, hb3⟩
      have Da_4 := Lib.hid ((HDa.out.al (.cells #[.slice A n c, .slice B m k] 25)).bl hb3)
      have D0_4 := Lib.hid ((show Whole (w.alloc (.cells #[.slice A n c, .slice B m k] 25)) (w.heap.size) (25) ([.slice A n c, .slice B m k]) from Whole.new2 (by first | rfl | simp)).bl hb3)
      have Bel_4 := Lib.hid (bel_bl (bel_al (Below.refl _ w) (.cells #[.slice A n c, .slice B m k] 25)) hb3)
      clear HDa
      clear hb3
      have lw5 : (w3).cell? ⟨w.heap.size, 0, none⟩ = some (.slice A n c) := D0_4.out.cell (i := 0) rfl
      have lw6 : (w3).cell? ⟨w.heap.size, 1, none⟩ = some (.slice B m k) := D0_4.out.cell (i := 1) rfl
      go_wp2_with fail
      clear lw5 lw6
      refine (HGg.out _ Da_4.out).mono ?_
      rintro e w7 ⟨rfl, hb7⟩
      have Da_8 := Lib.hid (Da_4.out.bl hb7)
      have D0_8 := Lib.hid (D0_4.out.bl hb7)
      have Bel_8 := Lib.hid (bel_bl Bel_4.out hb7)
      clear Da_4 D0_4 Bel_4
      clear hb7
      go_wp2
      go_ret
      exact ⟨rfl, Bel_8.out⟩
  · rw [if_neg he]
    have he2 : (e != 0) = true := by simp [he]
    go_enter Try.func41, Try.ntmps41
    have lw1 : ((w.alloc (.cells #[.slice A n c, .slice B m k] 25))).cell? ⟨w.heap.size, 0, none⟩ = some (.slice A n c) := (show Whole (w.alloc (.cells #[.slice A n c, .slice B m k] 25)) (w.heap.size) (25) ([.slice A n c, .slice B m k]) from Whole.new2 (by first | rfl | simp)).cell (i := 0) rfl
    have lw2 : ((w.alloc (.cells #[.slice A n c, .slice B m k] 25))).cell? ⟨w.heap.size, 1, none⟩ = some (.slice B m k) := (show Whole (w.alloc (.cells #[.slice A n c, .slice B m k] 25)) (w.heap.size) (25) ([.slice A n c, .slice B m k]) from Whole.new2 (by first | rfl | simp)).cell (i := 1) rfl
    go_wp2_with fail
    clear lw1 lw2
    refine (HMm.out _ (HDa.out.al (.cells #[.slice A n c, .slice B m k] 25))).mono ?_
    rintro e w3 ⟨rfl, hb3⟩
    have Da_4 := Lib.hid ((HDa.out.al (.cells #[.slice A n c, .slice B m k] 25)).bl hb3)
    have D0_4 := Lib.hid ((show Whole (w.alloc (.cells #[.slice A n c, .slice B m k] 25)) (w.heap.size) (25) ([.slice A n c, .slice B m k]) from Whole.new2 (by first | rfl | simp)).bl hb3)
    have Bel_4 := Lib.hid (bel_bl (bel_al (Below.refl _ w) (.cells #[.slice A n c, .slice B m k] 25)) hb3)
    clear HDa
    clear hb3
    go_wp2
    go_ret
    exact ⟨rfl, Bel_4.out⟩
end Go.Proofs.Ytahbfdhjgnlmdaa

/- Counts of layer 7. -/
namespace Go.Proofs.Ytahbfdhjgnlmdaa
open Go.RowKit
set_option linter.unusedSimpArgs false
set_option linter.unusedVariables false

end Go.Proofs.Ytahbfdhjgnlmdaa

/- few of stage 7: 26 vertices with rings of 82 darts, and 42 edges. -/
namespace Go.Proofs.Ytahbfdhjgnlmdaa
open Go.RowKit
set_option linter.unusedSimpArgs false
set_option linter.unusedVariables false

def few7V (v : VC) : VC := if 82 < v.2.1.2.1 then (v.1, (v.2.1.1, 82, v.2.1.2.2.1, v.2.1.2.2.2.take 82), v.2.2) else v
theorem few7V_next (Vs : List VC) (j : Nat) (v : VC) (h : Vs[j]? = some v) : rowsV vC ((Vs.take j).map few7V) ++ rowsV vC [few7V v] = rowsV vC ((Vs.take (j + 1)).map few7V) := by
  rw [← rowsV_app, List.take_add_one, h]
  simp
/-- Between two rounds: the vertices' row grows. -/
structure Few7A (w : World) (Vs : List VC) (A B : Option Addr) (n c m k b0 b1 b2 : Nat) (j : Nat) (v : Value) (wr : World) : Prop where
  ow : Ow w (b2 + 1) 38 5 v j (rowsV vC ((Vs.take j).map few7V)) wr
  x0 : Whole wr b0 25 [.slice A n c, .slice B m k]
  x1 : Whole wr b1 25 [.slice none 0 0, .slice none 0 0]
  x2 : Whole wr b2 25 [v, .slice none 0 0]
/-- Between two rounds: the edges' row grows. -/
structure Few7B (w : World) (Vs : List VC) (Es : List EC) (A B : Option Addr) (n c m k b0 b1 b2 B2 N : Nat) (A1 : Option Addr) (c1 j : Nat) (v u : Value) (wr : World) : Prop where
  ow : Ow w B2 33 4 v j (rowsV eC (Es.take j)) wr
  x0 : Whole wr b0 25 [.slice A n c, .slice B m k]
  x1 : Whole wr b1 25 [.slice none 0 0, .slice none 0 0]
  x2 : Whole wr b2 25 [.slice A1 N c1, u]
  rv : RdS wr B2 5 A1 N c1 (rowsV vC ((Vs.take 26).map few7V))
section
variable {w wr wr' : World} {Vs : List VC} {Es : List EC} {A B A1 : Option Addr} {n c m k b0 b1 b2 B2 N c1 j : Nat} {v u : Value}
theorem Few7B.below (h : Few7B w Vs Es A B n c m k b0 b1 b2 B2 N A1 c1 j v u wr) (hb : Below wr.heap.size wr wr') : Few7B w Vs Es A B n c m k b0 b1 b2 B2 N A1 c1 j v u wr' :=
  ⟨h.ow.up hb, h.x0.below hb, h.x1.below hb, h.x2.below hb, h.rv.up (hb.mono h.ow.hi) (Nat.le_refl _)⟩
/-- The row has grown. -/
theorem Few7B.grow (h : Few7B w Vs Es A B n c m k b0 b1 b2 B2 N A1 c1 j v u wr) {e : EC} (he : Es[j]? = some e) {v' : Value} (ho : Ow w B2 33 4 v' (j + 1) (rowsV eC (Es.take j) ++ eC e) wr') (hb : Below B2 wr wr') (h0 : b0 < B2) (h1 : b1 < B2) (h2 : b2 < B2) :
    Few7B w Vs Es A B n c m k b0 b1 b2 B2 N A1 c1 (j + 1) v' u wr' :=
  ⟨by rw [← fewE_next Es j e he]; simpa [rowsV] using ho, h.x0.at_ (hb.block _ h0), h.x1.at_ (hb.block _ h1), h.x2.at_ (hb.block _ h2), h.rv.up hb (Nat.le_refl _)⟩
theorem Few7B.store (h : Few7B w Vs Es A B n c m k b0 b1 b2 B2 N A1 c1 j v u wr) (h02 : b0 ≠ b2) (h12 : b1 ≠ b2) (h2 : b2 < B2) (hl : w.heap.size ≤ b2) (hne : ∀ a, A1 = some a → 0 < N → a.block ≠ b2) :
    Few7B w Vs Es A B n c m k b0 b1 b2 B2 N A1 c1 j v v (wr.setCell ⟨b2, 1, none⟩ v) :=
  ⟨h.ow.set_far (h.ow.low_ne h2) hl v, h.x0.set_far' h02 v, h.x1.set_far' h12 v, h.x2.set_ 1 v, h.rv.far_ hne v⟩
end
theorem RgOk.few7 {w : World} {v : VC} (h : RgOk w v.2.1) : RgOk w (few7V v).2.1 := by
  unfold few7V
  split
  · rename_i h30
    refine ⟨h.1, ?_⟩
    have := h.2.take_ 82 (by omega)
    rw [dartsV_rows, ← rowsV_take dC dC_len] at this
    show RdS w w.heap.size 3 v.2.1.1 82 v.2.1.2.2.1 (dartsV (v.2.1.2.2.2.take 82))
    rw [dartsV_rows]
    exact this
  · exact h
theorem few7V_ring (v : VC) : (few7V v).2.1.1 = v.2.1.1 ∧ (few7V v).2.1.2.1 ≤ 82 ∧ (few7V v).2.1.2.1 ≤ v.2.1.2.1 ∧ (few7V v).1 = v.1 ∧ (few7V v).2.2 = v.2.2 ∧ ∀ d ∈ (few7V v).2.1.2.2.2, d ∈ v.2.1.2.2.2 := by
  unfold few7V
  split
  · exact ⟨rfl, Nat.le_refl _, by show 82 ≤ _; omega, rfl, rfl, fun d hd => List.mem_of_mem_take hd⟩
  · exact ⟨rfl, by omega, Nat.le_refl _, rfl, rfl, fun d hd => hd⟩
theorem GoodD.few7 {Vs : List VC} {Es : List EC} (h : GoodD Vs Es) : GoodD ((Vs.take 26).map few7V) (Es.take 42) := by
  refine ⟨fun x hx d hd => ?_, fun e he => h.e e (List.mem_of_mem_take he), fun x hx => ?_, fun e he => h.le e (List.mem_of_mem_take he)⟩
  · obtain ⟨y, hy, rfl⟩ := List.mem_map.1 hx
    exact h.v y (List.mem_of_mem_take hy) d ((few7V_ring y).2.2.2.2.2 d hd)
  · obtain ⟨y, hy, rfl⟩ := List.mem_map.1 hx
    have := h.lv y (List.mem_of_mem_take hy)
    rw [(few7V_ring y).2.2.2.2.1]
    exact this
/-- What few tells. -/
structure Few7D (w0 W W' : World) (A : Option Addr) (n c : Nat) (Vs : List VC) (B : Option Addr) (m k : Nat) (Es : List EC) : Prop where
  dg : DgIn W' A n c Vs B m k Es
  good : GoodD Vs Es
  n30 : n ≤ 26
  m50 : m ≤ 42
  r30 : ∀ x ∈ Vs, x.2.1.2.1 ≤ 82
  low : ∀ x ∈ Vs, ∀ a, x.2.1.1 = some a → 0 < x.2.1.2.1 → a.block < w0.heap.size
  fresh : FwNew W A n c B m k
  lenv : Vs.length = n
  lene : Es.length = m
/-- The diagram that few told is put into a variable of the call's own. -/
theorem Few7D.put {w0 W W' : World} {A B : Option Addr} {n c m k g : Nat} {Vs : List VC} {Es : List EC} (h : Few7D w0 W W' A n c Vs B m k Es) (hg0 : w0.heap.size ≤ g) (hg : g < W.heap.size) (u v : Value) :
    DgIn ((W'.setCell ⟨g, 0, none⟩ u).setCell ⟨g, 1, none⟩ v) A n c Vs B m k Es := by
  have ha : ∀ a, A = some a → 0 < n → a.block ≠ g := fun a e h0 => by have := h.fresh.2.2.1 a e h0; omega
  have hb : ∀ a, B = some a → 0 < m → a.block ≠ g := fun a e h0 => by have := h.fresh.2.2.2 a e h0; omega
  have hr : ∀ x ∈ Vs, ∀ a, x.2.1.1 = some a → 0 < x.2.1.2.1 → a.block ≠ g := fun x hx a e h0 => by have := h.low x hx a e h0; omega
  exact (h.dg.far g 0 u ha hb hr).far g 1 v ha hb hr
end Go.Proofs.Ytahbfdhjgnlmdaa

/- What is counted of a diagram that is well formed; and the document's examples of layer 7. -/
namespace Go.Proofs.Ytahbfdhjgnlmdaa
open Go.RowKit
set_option linter.unusedSimpArgs false
set_option linter.unusedVariables false


/-- The genus, in numbers. -/
def genF (Vs : List VC) (Es : List EC) : Int := (2 * ((cntF (labF Vs) : Nat) : Int) - Vs.length + Es.length - ((facN Vs Es + aloneN Vs : Nat) : Int)).tdiv 2
def mayF7 (Vs : List VC) (Es : List EC) : Int := if formD Vs Es = 0 then (if genF Vs Es = 0 then 0 else 11) else formD Vs Es
theorem gen_num {Vs : List VC} {Es : List EC} (h : Formed Vs Es) {t : Nat} (e : 2 * cntF (labF Vs) + Es.length = Vs.length + (facN Vs Es + aloneN Vs) + 2 * t) : genF Vs Es = (t : Int) := by
  unfold genF
  have : (2 * ((cntF (labF Vs) : Nat) : Int) - Vs.length + Es.length - ((facN Vs Es + aloneN Vs : Nat) : Int)) = 2 * (t : Int) := by omega
  rw [this, Int.tdiv_eq_ediv_of_nonneg (by omega)]
  omega
section
variable {A : Option Addr} {n c : Nat} {Vs : List VC} {B : Option Addr} {m k : Nat} {Es : List EC}
theorem fac_small (hf : Formed Vs Es) : facN Vs Es ≤ 80 := by
  obtain ⟨P, hP, e⟩ := facN_reps hf
  rw [e]
  have h1 := nd_le hP.nd hP.sub
  have := hf.l80
  omega
theorem fac_any (hf : Formed Vs Es) (hg : GoodD Vs Es) : ∀ W, DgIn W A n c Vs B m k Es → Calls Try.prog 53 #[.agg #[.slice A n c, .slice B m k]] W fun e w' => ∃ A' c', e = .returned (.slice A' (facN Vs Es) c') ∧ Below W.heap.size W w' := fun W h => by
  refine (faces5_any A n c Vs B m k Es W h hf hg).mono ?_
  rintro e w' ⟨A', c', X, rfl, -, hX, hb⟩
  have hl := congrArg List.length hX
  rw [List.length_map] at hl
  rw [hl]
  exact ⟨A', c', rfl, hb⟩
theorem dg_lens {w : World} (h : DgIn w A n c Vs B m k Es) : Vs.length = n ∧ Es.length = m := ⟨h.v.rlen vC_len (by decide), h.e.rlen eC_len (by decide)⟩
theorem cntF_small (hf : Formed Vs Es) : cntF (labF Vs) ≤ 24 := by
  have := cnt_le Vs
  have := hf.v24
  omega
theorem cnt7_any (hf : Formed Vs Es) (hg : GoodD Vs Es) : ∀ W, DgIn W A n c Vs B m k Es → Calls Try.prog 37 #[.agg #[.slice A n c, .slice B m k]] W fun e w' => e = .returned (.tuple #[.int .i64 (n : Int), .int .i64 (m : Int), .int .i64 ((facN Vs Es + aloneN Vs : Nat) : Int), .int .i64 ((cntF (labF Vs) : Nat) : Int)]) ∧ Below W.heap.size W w' := fun W h => by
  have hp := hf.pre h hg
  have h1 := hf.small h
  exact ecnt_any A n c Vs B m k Es (facN Vs Es) (cntF (labF Vs)) W h hp.n (by omega) (by have := fac_small hf; omega) (by have := cntF_small hf; omega) (fac_any hf hg) (fun W h => count_any A n c Vs B m k Es W h hp.n hp.r hg.v)
theorem gen7_eq {w : World} (h : DgIn w A n c Vs B m k Es) : (2 * ((cntF (labF Vs) : Nat) : Int) - (n : Int) + (m : Int) - ((facN Vs Es + aloneN Vs : Nat) : Int)).tdiv 2 = genF Vs Es := by
  obtain ⟨h1, h2⟩ := dg_lens h
  rw [genF, h1, h2]
theorem gen7_any (hf : Formed Vs Es) (hg : GoodD Vs Es) : ∀ W, DgIn W A n c Vs B m k Es → Calls Try.prog 13 #[.agg #[.slice A n c, .slice B m k]] W fun e w' => e = .returned (.int .i64 (genF Vs Es)) ∧ Below W.heap.size W w' := fun W h => by
  have hp := hf.pre h hg
  have h1 := hf.small h
  have h2 := alone_le Vs
  have h3 := (dg_lens h).1
  exact egenus_any A n c Vs B m k Es (facN Vs Es + aloneN Vs) (cntF (labF Vs)) (genF Vs Es) W h hp.n (by omega) (by have := fac_small hf; omega) (by have := cntF_small hf; omega) (gen7_eq h) (cnt7_any hf hg)
theorem plan7_any (hf : Formed Vs Es) (hg : GoodD Vs Es) : ∀ W, DgIn W A n c Vs B m k Es → Calls Try.prog 14 #[.agg #[.slice A n c, .slice B m k]] W fun e w' => e = .returned (.bool (genF Vs Es == 0)) ∧ Below W.heap.size W w' := fun W h =>
  eplan_any A n c Vs B m k Es (genF Vs Es) W h (gen7_any hf hg)
theorem form7_any (hr : ∀ x ∈ Vs, x.2.1.2.1 ≤ 1000000) (hg : GoodD Vs Es) : ∀ W, DgIn W A n c Vs B m k Es → Calls Try.prog 55 #[.agg #[.slice A n c, .slice B m k]] W fun e w' => e = .returned (.int .i64 (formD Vs Es)) ∧ Below W.heap.size W w' := fun W h => form_any A n c Vs B m k Es W h hr hg.e hg.v
theorem rform7_any (hr : ∀ x ∈ Vs, x.2.1.2.1 ≤ 1000000) (hg : GoodD Vs Es) : ∀ W, DgIn W A n c Vs B m k Es → Calls Try.prog 11 #[.agg #[.slice A n c, .slice B m k]] W fun e w' => e = .returned (.int .i64 (formD Vs Es)) ∧ Below W.heap.size W w' := fun W h => formR_eq Vs Es ▸ rform_any A n c Vs B m k Es W h (fun x hx => by have := hr x hx; omega) hg.lv hg.le
theorem may7_any (hr : ∀ x ∈ Vs, x.2.1.2.1 ≤ 1000000) (hg : GoodD Vs Es) : ∀ W, DgIn W A n c Vs B m k Es → Calls Try.prog 41 #[.agg #[.slice A n c, .slice B m k]] W fun e w' => e = .returned (.int .i64 (mayF7 Vs Es)) ∧ Below W.heap.size W w' := fun W h =>
  emay_any A n c Vs B m k Es (formD Vs Es) (genF Vs Es) W h (form7_any hr hg) (fun e => plan7_any ((form0 Vs Es).1 e) hg)
end
def twV (r : Option Addr) (a b c e : D) : List VC := [((1, 1), (r, 4, 4, [a, b, c, e]), ByteArray.empty, 0)]
def twE : List EC := [((1, 2), ByteArray.empty, 0), ((1, 3), ByteArray.empty, 0)]
theorem tw1_formed (r : Option Addr) : Formed (twV r (1, 2, 0) (1, 2, 1) (1, 3, 0) (1, 3, 1)) twE := (form0 _ _).1 ((show formD (twV r (1, 2, 0) (1, 2, 1) (1, 3, 0) (1, 3, 1)) twE = formD (twV none (1, 2, 0) (1, 2, 1) (1, 3, 0) (1, 3, 1)) twE from rfl).trans (by kernel_rfl))
theorem tw2_formed (r : Option Addr) : Formed (twV r (1, 2, 0) (1, 3, 0) (1, 2, 1) (1, 3, 1)) twE := (form0 _ _).1 ((show formD (twV r (1, 2, 0) (1, 3, 0) (1, 2, 1) (1, 3, 1)) twE = formD (twV none (1, 2, 0) (1, 3, 0) (1, 2, 1) (1, 3, 1)) twE from rfl).trans (by kernel_rfl))
theorem tw0_formed : Formed [] [] := (form0 _ _).1 (by kernel_rfl)
theorem tw1_gen (r : Option Addr) : genF (twV r (1, 2, 0) (1, 2, 1) (1, 3, 0) (1, 3, 1)) twE = 0 := (show _ = genF (twV none (1, 2, 0) (1, 2, 1) (1, 3, 0) (1, 3, 1)) twE from rfl).trans (by kernel_rfl)
theorem tw2_gen (r : Option Addr) : genF (twV r (1, 2, 0) (1, 3, 0) (1, 2, 1) (1, 3, 1)) twE = 1 := (show _ = genF (twV none (1, 2, 0) (1, 3, 0) (1, 2, 1) (1, 3, 1)) twE from rfl).trans (by kernel_rfl)
theorem tw0_gen : genF [] [] = 0 := by kernel_rfl
theorem tw_wf : wfD (1, 2, 0) ∧ wfD (1, 2, 1) ∧ wfD (1, 3, 0) ∧ wfD (1, 3, 1) := ⟨⟨by decide, by decide, by decide⟩, ⟨by decide, by decide, by decide⟩, ⟨by decide, by decide, by decide⟩, ⟨by decide, by decide, by decide⟩⟩
theorem tw_good (r : Option Addr) (a b c e : D) (ha : wfD a) (hb : wfD b) (hc : wfD c) (he : wfD e) : GoodD (twV r a b c e) twE := ⟨fun x hx d hd => by
    obtain rfl := List.mem_singleton.1 hx
    have hd : d ∈ [a, b, c, e] := hd
    simp only [List.mem_cons, List.mem_nil_iff, or_false] at hd
    rcases hd with rfl | rfl | rfl | rfl <;> assumption, fun x hx => by
    rcases List.mem_cons.1 hx with rfl | hx
    · exact ⟨tw_wf.1, tw_wf.2.1⟩
    · obtain rfl := List.mem_singleton.1 hx
      exact ⟨tw_wf.2.2.1, tw_wf.2.2.2⟩, fun x hx => by
    obtain rfl := List.mem_singleton.1 hx
    exact Nat.zero_le _, fun x hx => by
    rcases List.mem_cons.1 hx with rfl | hx
    · exact Nat.zero_le _
    · obtain rfl := List.mem_singleton.1 hx
      exact Nat.zero_le _⟩
theorem tw0_good : GoodD [] [] := ⟨fun x hx => (by cases hx), fun x hx => (by cases hx), fun x hx => (by cases hx), fun x hx => (by cases hx)⟩
end Go.Proofs.Ytahbfdhjgnlmdaa

/- Examples of layer 7. -/
namespace Go.Proofs.Ytahbfdhjgnlmdaa
open Go.RowKit
set_option linter.unusedSimpArgs false
set_option linter.unusedVariables false

end Go.Proofs.Ytahbfdhjgnlmdaa

/- Examples of layer 7. -/
namespace Go.Proofs.Ytahbfdhjgnlmdaa
open Go.RowKit
set_option linter.unusedSimpArgs false
set_option linter.unusedVariables false

end Go.Proofs.Ytahbfdhjgnlmdaa

/- A diagram that may be, as bytes: numbers alone. -/
namespace Go.Proofs.Ytahbfdhjgnlmdaa
open Go.RowKit
set_option linter.unusedSimpArgs false
set_option linter.unusedVariables false

section
variable {Vs : List VC} {Es : List EC}
theorem may7_formed (h : mayF7 Vs Es = 0) : Formed Vs Es := by
  unfold mayF7 at h
  by_cases h0 : formD Vs Es = 0
  · exact (form0 Vs Es).1 h0
  · rw [if_neg h0] at h
    exact absurd h h0
theorem Formed.okE (h : Formed Vs Es) : ∀ e ∈ Es, okH e.1 e.2.1 e.2.2 := fun e he => by
  have h1 := ((riseF_iff _ _).1 h.re).1 e.1 (List.mem_map.2 ⟨e, he, rfl⟩)
  have h2 := List.all_eq_true.1 h.le e he
  have h3 := List.all_eq_true.1 h.ae e he
  simp only [mayL, Bool.and_eq_true, decide_eq_true_eq] at h2
  simp only [mayA, decide_eq_true_eq] at h3
  exact ⟨h1, by omega, by unfold In64; omega⟩
theorem Formed.okV (h : Formed Vs Es) (hr : ∀ v ∈ Vs, v.2.1.2.2.2.length < 256) : ∀ v ∈ Vs.map vS, okV Es v := fun v hv => by
  obtain ⟨u, hu, rfl⟩ := List.mem_map.1 hv
  have h1 := ((riseF_iff _ _).1 h.rv).1 u.1 (List.mem_map.2 ⟨u, hu, rfl⟩)
  have h2 := List.all_eq_true.1 h.lv u hu
  have h3 := List.all_eq_true.1 h.av u hu
  simp only [mayL, Bool.and_eq_true, decide_eq_true_eq] at h2
  simp only [mayA, decide_eq_true_eq] at h3
  refine ⟨⟨h1, by show u.2.2.1.size < 256; omega, by show In64 u.2.2.2; unfold In64; omega⟩, hr u hu, fun d hd => ?_⟩
  obtain ⟨e, he, q1, q2⟩ := h.of_dart hu hd
  exact ⟨List.mem_map.2 ⟨e, he, q1⟩, q2⟩
theorem Formed.ring (h : Formed Vs Es) : ∀ v ∈ Vs, v.2.1.2.2.2.length ≤ 80 := fun v hv => by
  have h1 := h.len
  have h2 := h.e40
  obtain ⟨i, hi, rfl⟩ := List.mem_iff_getElem.1 hv
  have h3 := rings_take Vs i Vs[i] (List.getElem?_eq_getElem hi)
  have h4 : (ringsOf (Vs.take (i + 1))).length ≤ (ringsOf Vs).length := by
    conv => rhs; rw [← List.take_append_drop (i + 1) Vs]
    rw [ringsOf_app, List.length_append]
    omega
  omega
theorem Formed.size (h : Formed Vs Es) : (∀ e ∈ Es, e.2.1.size ≤ 16) ∧ ∀ v ∈ Vs, v.2.2.1.size ≤ 16 := by
  refine ⟨fun e he => ?_, fun v hv => ?_⟩
  · have h2 := List.all_eq_true.1 h.le e he
    simp only [mayL, Bool.and_eq_true, decide_eq_true_eq] at h2
    exact h2.1
  · have h2 := List.all_eq_true.1 h.lv v hv
    simp only [mayL, Bool.and_eq_true, decide_eq_true_eq] at h2
    exact h2.1
/-- What was laid down is read as it was. -/
theorem Formed.read (h : Formed Vs Es) (R : List Nat) : rdAE (putD (Vs.map vS) Es ++ R) = Es ∧ rdAV (putD (Vs.map vS) Es ++ R) = Vs.map vS :=
  rd_put h.okE h.e40 (h.okV (fun v hv => by have := h.ring v hv; omega)) (by rw [List.length_map]; exact h.v24) R
/-- The places of the first edges. -/
def plM (Es : List EC) (i : Nat) (y : Int × Int) : Option Nat := if y ∈ (Es.take i).map (·.1) then some (plE Es y) else none
theorem plM_zero (Es : List EC) : plM Es 0 = fun _ => none := by funext y; simp [plM]
theorem plE_at (hn : (Es.map (·.1)).Nodup) {i : Nat} {e : EC} (he : Es[i]? = some e) : plE Es e.1 = i := by
  obtain ⟨hi, q⟩ := List.getElem?_eq_some_iff.1 he
  have h1 : (Es.map (·.1))[i]'(by rw [List.length_map]; exact hi) = e.1 := by rw [List.getElem_map, q]
  unfold plE
  rw [← h1, List.Nodup.idxOf_getElem hn]
theorem plM_next (hn : (Es.map (·.1)).Nodup) {i : Nat} {e : EC} (he : Es[i]? = some e) : (fun y => if y = e.1 then some i else plM Es i y) = plM Es (i + 1) := by
  funext y
  unfold plM
  rw [List.take_add_one, he, List.map_append]
  by_cases h : y = e.1
  · subst h
    simp [plE_at hn he]
  · rw [if_neg h]
    simp [h]
theorem plM_all (h : Formed Vs Es) {v : VC} (hv : v ∈ Vs) {d : D} (hd : d ∈ v.2.1.2.2.2) : plM Es Es.length (d.1, d.2.1) = some (plE Es (d.1, d.2.1)) := by
  obtain ⟨e, he, q1, q2⟩ := h.of_dart hv hd
  unfold plM
  rw [List.take_length, if_pos (List.mem_map.2 ⟨e, he, q1⟩)]
theorem plE_lt (h : Formed Vs Es) {v : VC} (hv : v ∈ Vs) {d : D} (hd : d ∈ v.2.1.2.2.2) : plE Es (d.1, d.2.1) < Es.length := by
  obtain ⟨e, he, q1, q2⟩ := h.of_dart hv hd
  have := List.idxOf_lt_length_of_mem (List.mem_map.2 ⟨e, he, q1⟩)
  rwa [List.length_map] at this
theorem headB_len (x : Int × Int) (s : ByteArray) (a : Int) : (headB x s a).length = 13 + s.size := by
  simp [headB, idB, textB, tB_len, be8_len]
  omega
theorem headB_lt (x : Int × Int) (s : ByteArray) (a : Int) : ∀ b ∈ headB x s a, b < 256 := fun b hb => by
  rcases List.mem_append.1 hb with q | q
  · exact idB_lt x b q
  · rcases List.mem_append.1 q with q | q
    · exact textB_lt s b q
    · exact be8_lt a b q
theorem putD_lt (Vs : List VS) (Es : List EC) : ∀ b ∈ putD Vs Es, b < 256 := fun b hb => by
  unfold putD at hb
  rcases List.mem_cons.1 hb with rfl | hb
  · omega
  rcases List.mem_append.1 hb with q | q
  · obtain ⟨e, -, q⟩ := List.mem_flatMap.1 q
    exact headB_lt _ _ _ b q
  rcases List.mem_cons.1 q with rfl | q
  · omega
  · obtain ⟨v, -, q⟩ := List.mem_flatMap.1 q
    rcases List.mem_append.1 q with q | q
    · exact headB_lt _ _ _ b q
    rcases List.mem_cons.1 q with rfl | q
    · omega
    · obtain ⟨d, -, rfl⟩ := List.mem_map.1 q
      unfold dB
      omega
theorem edges_len {c : Nat} : ∀ {L : List EC}, (∀ e ∈ L, e.2.1.size ≤ c) → (L.flatMap edB).length ≤ (13 + c) * L.length
  | [], _ => by simp
  | e :: L, h => by
    have h1 := edges_len (L := L) (fun x hx => h x (by simp [hx]))
    have h2 := h e (by simp)
    rw [List.flatMap_cons, List.length_append, List.length_cons, edB, headB_len, Nat.mul_succ]
    omega
theorem verts_len {Fs : List EC} : ∀ {L : List VS}, (∀ e ∈ L, e.2.2.1.size ≤ 16 ∧ e.2.1.length ≤ 80) → (L.flatMap (vtB Fs)).length ≤ 110 * L.length
  | [], _ => by simp
  | e :: L, h => by
    have h1 := verts_len (Fs := Fs) (L := L) (fun x hx => h x (by simp [hx]))
    have h2 := h e (by simp)
    rw [List.flatMap_cons, List.length_append, List.length_cons, vtB, List.length_append, headB_len, List.length_cons, List.length_map]
    omega
theorem putD_max (h : Formed Vs Es) : (putD (Vs.map vS) Es).length ≤ 4000 := by
  have h1 := edges_len (c := 16) h.size.1
  have h2 := verts_len (Fs := Es) (L := Vs.map vS) (fun e he => by
    obtain ⟨u, hu, rfl⟩ := List.mem_map.1 he
    exact ⟨h.size.2 u hu, h.ring u hu⟩)
  have h3 := h.e40
  have h4 := h.v24
  rw [List.length_map] at h2
  unfold putD
  rw [List.length_cons, List.length_append, List.length_cons]
  omega
end

end Go.Proofs.Ytahbfdhjgnlmdaa

/- pack.room. -/
namespace Go.Proofs.Ytahbfdhjgnlmdaa
open Go.RowKit
set_option linter.unusedSimpArgs false
set_option linter.unusedVariables false

theorem rows_get (L : List Nat) (j : Nat) : (rowsV f8 L)[j]? = (L[j]?).map (fun b : Nat => Value.int .u8 (b : Int)) := by rw [rowsV_map8, List.getElem?_map]
theorem rows8_len (L : List Nat) : (rowsV f8 L).length = L.length := by rw [rowsV_map8, List.length_map]
theorem rows8_app (L M : List Nat) : rowsV f8 (L ++ M) = rowsV f8 L ++ rowsV f8 M := by rw [rowsV_map8, rowsV_map8, rowsV_map8, List.map_append]
theorem rows8_set (L : List Nat) (j b : Nat) : (rowsV f8 L).set j (.int .u8 (b : Int)) = rowsV f8 (L.set j b) := by rw [rowsV_map8, rowsV_map8, List.map_set]
theorem made_u8 (N : Nat) : madeCells (Value.int .u8 0).cells N = (rowsV f8 (List.replicate N 0)).toArray := by
  apply Array.ext'
  rw [rowsV_map8, List.map_replicate]
  show (madeCells #[Value.int .u8 0] N).toList = _
  refine List.ext_getElem? fun j => ?_
  rw [List.getElem?_replicate]
  by_cases h : j < N
  · rw [if_pos h, Array.getElem?_toList, Array.getElem?_eq_getElem (by rw [size_madeCells]; exact h)]
    simp [madeCells, Nat.mod_one]
  · rw [if_neg h, Array.getElem?_toList, Array.getElem?_eq_none (by rw [size_madeCells]; omega)]
theorem make_u8 (N : Nat) (hN : N ≤ 100000000) (W : World) : (Instr.makeSlice 43 (.int .i64 (N : Int)) (.int .i64 (N : Int))).run Try.prog W = .ok (.slice (some ⟨W.heap.size, 0, none⟩) N N) (W.alloc (.cells (rowsV f8 (List.replicate N 0)).toArray 5)) := by
  obtain ⟨i0, hi, hz0, hz1, hz2⟩ := info_parts_ info_u8
  have h := run_make (P := Try.prog) W 43 5 i0 _ Try.underlying43 hi hz0 .i64 .i64 (N : Int) (N : Int) (by omega) (by omega) (by rw [hz2]; omega) (by omega)
  rw [hz1] at h
  simp only [Int.toNat_natCast, Nat.mul_one] at h
  rw [h, made_u8]
theorem splice_0 (L : List Nat) (m : Nat) : splice (rowsV f8 (List.replicate (L.length + m) 0)) 0 (rowsV f8 L) = rowsV f8 (L ++ List.replicate m 0) := by
  unfold splice
  rw [List.take_zero, List.nil_append, rows8_app, rows8_len, Nat.zero_add, rowsV_map8 (List.replicate _ _), rowsV_map8 (List.replicate _ _), List.map_replicate, List.map_replicate, List.drop_replicate, Nat.add_sub_cancel_left]
/-- A block of bytes that the call made is a row of its own. -/
theorem gives8_whole {w w' : World} {g : Nat} {L : List Nat} {N : Nat} (hN : L.length = N) (hm : N ≤ 100000000) (hg : w.heap.size ≤ g) (hw : Whole w' g 5 (rowsV f8 L)) (hb : Below w.heap.size w w') : Gives8 w L (.returned (.slice (some ⟨g, 0, none⟩) N N)) w' := by
  subst hN
  refine ⟨some ⟨g, 0, none⟩, L.length, rfl, RdS.of_whole8 hw (by rw [rows8_len, Nat.mul_one]), fun a ha _ => ?_, ?_, hb⟩
  · obtain rfl := Option.some.inj ha
    exact hg
  · exact own_mk (junk := []) (by rw [List.append_nil]; exact hw) hg (by rw [List.append_nil, rows8_len, Nat.mul_one]) (Nat.le_refl _) (by unfold maxLen; omega) (by rw [rows8_len, Nat.mul_one])
theorem RdS.src {W : World} {B n c : Nat} {A : Option Addr} {X : List Value} (h : RdS W B 1 A n c X) (h0 : 0 < X.length) : ∃ ad, A = some ad ∧ ∀ j v, X[j]? = some v → W.cell? (ad.add j) = some v := by
  cases A with
  | none => obtain ⟨h1, -⟩ := h.none_ rfl; have := h.len; omega
  | some a => exact ⟨a, rfl, h.cell a rfl⟩
set_option maxRecDepth 100000 in
set_option maxHeartbeats 1000000 in
theorem room_any (A : Option Addr) (c : Nat) (L : List Nat) (m : Nat) (w : World) (h : RdS w w.heap.size 1 A L.length c (rowsV f8 L)) (hn : L.length ≤ 1000000) (hm : m ≤ 1000000) :
    Calls Try.prog 40 #[.slice A L.length c, .int .i64 (m : Int)] w fun e w' => ∃ g, e = .returned (.slice (some ⟨g, 0, none⟩) (L.length + m) (L.length + m)) ∧ w.heap.size ≤ g ∧ Whole w' g 5 (rowsV f8 (L ++ List.replicate m 0)) ∧ Below w.heap.size w w' := by
  have HR := Lib.hid h
  have HL := Lib.hid (rows8_len L)
  have HSp := Lib.hid (splice_0 L m)
  have hw : IntKind.i64.wrap ((L.length : Int) + (m : Int)) = ((L.length + m : Nat) : Int) := by rw [IntWalk.i64_in _ (by omega)]; omega
  have hmk := make_u8 (L.length + m) (by omega)
  have hone := Lib.hid (f8_all L)
  obtain ⟨X, gX⟩ : ∃ X, rowsV f8 L = X := ⟨_, rfl⟩
  obtain ⟨Z, gZ⟩ : ∃ Z, rowsV f8 (List.replicate (L.length + m) 0) = Z := ⟨_, rfl⟩
  have HZl : RowKit.Hid (Z.length = L.length + m) := Lib.hid (by rw [← gZ, rows8_len, List.length_replicate])
  rw [gX] at HR HL HSp hone
  rw [gZ] at HSp hmk
  obtain ⟨n, gn⟩ : ∃ n, L.length = n := ⟨_, rfl⟩
  rw [gn] at HR HL hw hmk hn HZl ⊢
  obtain ⟨N, gN⟩ : ∃ N, n + m = N := ⟨_, rfl⟩
  rw [gN] at hw hmk HZl ⊢
  have Hle : RowKit.Hid (n ≤ N) := Lib.hid (by omega)
  clear h gX gZ gn gN
  go_enter Try.func40, Try.ntmps40
  have HW1 : RowKit.Hid (Whole (w.alloc (.cells Z.toArray 5)) w.heap.size 5 Z) := Lib.hid (Whole.new_ _ _ _)
  have HR1 := Lib.hid (HR.out.al (.cells Z.toArray 5))
  have HB1 := Lib.hid (below1 w (.cells Z.toArray 5))
  go_upto_region 2 with fail
  refine wp_region_lit ?_
  refine wl_read (v := ?_) (some 11) rfl (by rfl) ?_ ?_
  rotate_left
  · go_simp; (try with_reducible rfl)
  simp only [Act.put, List.setIfInBounds_toArray, List.set_cons_zero, List.set_cons_succ]
  refine wl_read (v := ?_) (some 12) rfl (by rfl) ?_ ?_
  rotate_left
  · go_simp; (try with_reducible rfl)
  simp only [Act.put, List.setIfInBounds_toArray, List.set_cons_zero, List.set_cons_succ]
  refine wpList_copy_splice rfl (.tmp 11) (.tmp 12) 43 43 rfl 5 Try.underlying43 (by kernel_rfl) _ _ _ _ _ _ rfl rfl w.heap.size 0 Z 5 HW1.out X (by rw [HL.out]; exact (Nat.min_eq_left Hle.out).symm) (fun h0 => ⟨rfl, HR1.out.src h0⟩) (by have := HL.out; have := Hle.out; have := HZl.out; omega) hone.out w.heap.size w HB1.out (Nat.le_refl _) ?_
  intro w2 HG2 hB2
  go_wp2
  go_ret
  exact ⟨w.heap.size, rfl, Nat.le_refl _, HSp.out ▸ HG2.out, hB2⟩

end Go.Proofs.Ytahbfdhjgnlmdaa

/- pack.Num. -/
namespace Go.Proofs.Ytahbfdhjgnlmdaa
open Go.RowKit
set_option linter.unusedSimpArgs false
set_option linter.unusedVariables false

theorem beN_cons : ∀ (k u : Nat), beN (k + 1) u = (u / 256 ^ k % 256) :: beN k u
  | 0, u => by simp [beN]
  | k + 1, u => by
    rw [beN, beN_cons k (u / 256), List.cons_append, Nat.div_div_eq_div_mul, ← Nat.pow_succ']
    rfl
/-- What stands in the row when k of the eight bytes are laid. -/
def btm (L : List Nat) (U k : Nat) : List Nat := L ++ (List.replicate (8 - k) 0 ++ beN k U)
theorem btm_len (L : List Nat) (U k : Nat) (hk : k ≤ 8) : (btm L U k).length = L.length + 8 := by simp [btm, beN_len]; omega
theorem btm_set (L : List Nat) (U k : Nat) (hk : k < 8) : (btm L U k).set (L.length + (7 - k)) (U / 256 ^ k % 256) = btm L U (k + 1) := by
  unfold btm
  rw [beN_cons, List.set_append, if_neg (by omega), Nat.add_sub_cancel_left]
  congr 1
  have e1 : 8 - k = (8 - (k + 1)) + 1 := by omega
  have e2 : 7 - k = 8 - (k + 1) := by omega
  rw [e1, e2, List.replicate_succ', List.append_assoc, List.set_append, if_neg (by rw [List.length_replicate]; omega), List.length_replicate, Nat.sub_self]
  rfl
theorem wrap_u64_ (x : Int) : IntKind.u64.wrap x = (u64 x : Int) := by
  rw [IntKind.wrap_u64]
  unfold u64
  omega
set_option maxRecDepth 100000 in
set_option maxHeartbeats 1000000 in
theorem num_any (A : Option Addr) (c : Nat) (L : List Nat) (x : Int) (w : World) (h : RdS w w.heap.size 1 A L.length c (rowsV f8 L)) (hn : L.length ≤ 900000) :
    Calls Try.prog 20 #[.slice A L.length c, .int .i64 x] w (Gives8 w (L ++ be8 x)) := by
  have HC := Lib.hid (room_any A c L 8 w h (by omega) (by omega))
  have hx := wrap_u64_ x
  obtain ⟨U, gU⟩ : ∃ U, u64 x = U := ⟨_, rfl⟩
  have e0 : L ++ List.replicate 8 0 = btm L U 0 := by simp [btm, beN]
  have e8 : L ++ be8 x = btm L U 8 := by unfold be8; rw [gU]; simp [btm]
  rw [e0] at HC
  rw [e8]
  rw [gU] at hx
  have Hlen := Lib.hid (btm_len L U)
  have Hset := Lib.hid (btm_set L U)
  have HU : RowKit.Hid (U < 18446744073709551616) := Lib.hid (by rw [← gU]; exact u64_lt x)
  have Hl8 : RowKit.Hid ((btm L U 8).length = L.length + 8) := Lib.hid (btm_len L U 8 (by omega))
  clear h e0 e8 gU
  obtain ⟨F, gF⟩ : ∃ F, btm L U = F := ⟨_, rfl⟩
  rw [gF] at HC Hlen Hset Hl8 ⊢
  obtain ⟨n, gn⟩ : ∃ n, L.length = n := ⟨_, rfl⟩
  rw [gn] at HC Hlen Hset hn Hl8 ⊢
  obtain ⟨N, gN⟩ : ∃ N, n + 8 = N := ⟨_, rfl⟩
  rw [gN] at HC Hlen Hl8
  have HN := Lib.hid gN
  have hsub : IntKind.i64.wrap ((N : Int) - 1) = ((n + 7 : Nat) : Int) := by rw [IntWalk.i64_in _ (by omega)]; omega
  obtain ⟨n7, gn7⟩ : ∃ n7, n + 7 = n7 := ⟨_, rfl⟩
  rw [gn7] at hsub
  have H7 := Lib.hid gn7
  clear gF gn gN gn7
  go_enter Try.func20, Try.ntmps20
  go_wp2_with (first | (go_at_call 40; refine HC.out.mono ?_; rintro e w2 ⟨g, rfl, hg, hw, hb⟩; have HG := Lib.hid hg; have HW := Lib.hid hw; have HB := Lib.hid hb; clear hg hw hb))
  clear hsub hx
  go_loopw [6, 7] (fun u i wr => ∃ k : Nat, k ≤ 8 ∧ u = .int .u64 ((U / 256 ^ k : Nat) : Int) ∧ i = .int .i64 ((n7 : Int) - (k : Int)) ∧ RowKit.Hid (Whole wr g 5 (rowsV f8 (F k))) ∧ RowKit.Hid (Below w.heap.size w wr)) (fun _ i _ => (intOf i + 1).toNat)
  case atStart => exact ⟨0, by omega, by simp, by simp, HW, HB⟩
  case round =>
    clear HW HB
    obtain ⟨k, hk, rfl, rfl, HW, HB⟩ := hrel
    by_cases hlt : k < 8
    · obtain ⟨j, gj⟩ : ∃ j : Nat, (n7 : Int) - (k : Int) = (j : Int) := ⟨n7 - k, by have := H7.out; omega⟩
      have Hj : RowKit.Hid (j = n + (7 - k)) := Lib.hid (by have := H7.out; omega)
      rw [gj]
      have hs := Hset.out k hlt
      obtain ⟨q, gq⟩ : ∃ q, U / 256 ^ k = q := ⟨_, rfl⟩
      have hq1 : U / 256 ^ (k + 1) = q / 256 := by rw [← gq, Nat.div_div_eq_div_mul, ← Nat.pow_succ]
      have Hq1 := Lib.hid hq1
      have hqU : q ≤ U := by rw [← gq]; exact Nat.div_le_self _ _
      rw [gq] at hs
      have Hs := Lib.hid hs
      rw [gq]
      have hw8 : IntKind.u8.wrap (q : Int) = ((q % 256 : Nat) : Int) := by rw [IntKind.wrap_u8]; omega
      have d1 : decide ((n : Int) ≤ (j : Int)) = true := decide_eq_true (by have := Hj.out; omega)
      have d2 : decide (n ≤ j) = true := decide_eq_true (by have := Hj.out; omega)
      have hjl : j < (F k).length := by rw [Hlen.out k hk]; have := Hj.out; have := HN.out; omega
      obtain ⟨b0, hb0⟩ : ∃ b, (F k)[j]? = some b := ⟨_, List.getElem?_eq_getElem hjl⟩
      have hjN : j < N := by have := Hj.out; have := HN.out; omega
      have hcell := HW.out.cell (i := j) (v := .int .u8 (b0 : Int)) (by rw [rows_get, hb0]; rfl)
      have hfree := HW.out.free j
      have hsb : IntKind.i64.wrap ((j : Int) - 1) = (j : Int) - 1 := IntWalk.i64_in _ (by have := Hj.out; omega)
      have hq64 : IntKind.u64.wrap ((q / 256 : Nat) : Int) = ((q / 256 : Nat) : Int) := by rw [IntKind.wrap_u64]; have := HU.out; omega
      clear gq hs hq1 hb0 hjl
      go_wp2
      go_roundw
      case rel => exact ⟨k + 1, by omega, by rw [Hq1.out, Int.natCast_ediv]; rfl, by go_num, Lib.hid (by have := HW.out.set_ j (.int .u8 ((q % 256 : Nat) : Int)); rw [rows8_set, Hj.out, Hs.out] at this; rw [Hj.out]; exact this), Lib.hid (HB.out.setCell (p := ⟨g, j, none⟩) HG.out _)⟩
      case measure => first | (simp [intOf]; done) | (simp [intOf]; omega)
    · obtain rfl : k = 8 := by omega
      have d1 : decide ((n : Int) ≤ (n7 : Int) - 8) = false := decide_eq_false (by have := H7.out; omega)
      go_wp2
      go_ret
      exact gives8_whole Hl8.out (by have := HN.out; omega) HG.out HW.out HB.out

end Go.Proofs.Ytahbfdhjgnlmdaa
