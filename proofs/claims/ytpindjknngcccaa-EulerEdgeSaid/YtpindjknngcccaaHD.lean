/- Several texts in one. -/
import Derived.Test.YtpindjknngcccaaGN
import Derived.Test.YtpindjknngcccaaDgMd
import Derived.Test.YtpindjknngcccaaGE
import Derived.Test.YtpindjknngcccaaRfC
import Derived.Test.YtpindjknngcccaaHA

/- The other way round: as many orbits of each length. -/
namespace Go.Proofs.Ytpindjknngcccaa
open Go.RowKit
set_option linter.unusedSimpArgs false
set_option linter.unusedVariables false
set_option linter.unusedSectionVars false
section
variable {α : Type} [DecidableEq α] {f f' u : α → α} {L P Q : List α}
end
end Go.Proofs.Ytpindjknngcccaa

/- A dart that stands at another vertex, or at two: what a caller needs; a diagram whose rings are replaced one by one. -/
namespace Go.Proofs.Ytpindjknngcccaa
open Go.RowKit
set_option linter.unusedSimpArgs false
set_option linter.unusedVariables false


theorem rings_same {Us Ws : List VC} (h : Us.map vS = Ws.map vS) : ringsOf Us = ringsOf Ws := by
  have e : ∀ L : List VC, ringsOf L = ((L.map vS).map (fun s => s.2.1)).flatten := fun L => by
    rw [List.map_map]
    exact List.flatMap_def ..
  rw [e, e, h]
theorem at_some {Vs : List VC} {x : D} {p : Int × Int} (h : atV Vs x = (p, true)) : ∃ v ∈ Vs, x ∈ v.2.1.2.2.2 ∧ v.1 = p := by
  unfold atV at h
  split at h
  · rename_i v hv
    injection h with h1
    exact ⟨v, List.mem_of_find?_eq_some hv, by simpa using List.find?_some hv, h1⟩
  · simp at h
theorem ring_len {Us : List VC} {u : VC} (h : u ∈ Us) : u.2.1.2.2.2.length ≤ (ringsOf Us).length := by
  obtain ⟨a, b, rfl⟩ := List.append_of_mem h
  rw [ringsOf_app, ringsOf_one]
  simp only [List.length_append]
  omega

/-- A cell that holds what a row does not hold is none of the row's. -/
theorem rds_poke {w : World} {B s n c : Nat} {A : Option Addr} {xs : List Value} (h : RdS w B s A n c xs) {p : Addr} {v : Value} (hp : w.cell? p = some v) (hv : ¬ v ∈ xs) (u : Value) : RdS (w.setCell p u) B s A n c xs :=
  ⟨h.len, h.none_, h.le, h.low, fun a ha j z hz => by
    have h1 := h.cell a ha j z hz
    by_cases e : p = a.add j
    · rw [← e, hp] at h1
      obtain rfl := Option.some.inj h1
      exact absurd (List.mem_of_getElem? hz) hv
    · rw [World.cell?_setCell_other _ _ _ _ e]
      exact h1⟩
theorem size_setCell (w : World) (p : Addr) (u : Value) : (w.setCell p u).heap.size = w.heap.size := by simp
theorem rowsV_mem {α : Type} {f : α → List Value} : ∀ {L : List α} {v : Value}, v ∈ rowsV f L → ∃ x ∈ L, v ∈ f x := by
  intro L
  induction L with
  | nil => intro v h; cases h
  | cons a r ih =>
    intro v h
    rcases List.mem_append.1 (show v ∈ f a ++ rowsV f r from h) with h | h
    · exact ⟨a, List.mem_cons_self .., h⟩
    · obtain ⟨x, hx, h2⟩ := ih h
      exact ⟨x, List.mem_cons_of_mem _ hx, h2⟩
theorem no_slice_e {Es : List EC} {A : Option Addr} {n c : Nat} : ¬ Value.slice A n c ∈ rowsV eC Es := fun h => by
  obtain ⟨x, _, hx⟩ := rowsV_mem h
  simp [eC] at hx
theorem no_slice_d {L : List D} {A : Option Addr} {n c : Nat} : ¬ Value.slice A n c ∈ dartsV L := fun h => by
  rw [dartsV_rows] at h
  obtain ⟨x, _, hx⟩ := rowsV_mem h
  simp [dC] at hx
/-- A diagram whose vertices are of one's own. -/
structure Wr (W : World) (lo : Nat) (A : Option Addr) (n c : Nat) (Us : List VC) (B : Option Addr) (m k : Nat) (Es : List EC) : Prop where
  v : W.ownsRow lo 42 5 (.slice A n c) n (rowsV vC Us)
  e : RdS W W.heap.size 4 B m k (rowsV eC Es)
  r : ∀ x ∈ Us, RgOk W x.2.1
section
variable {W W' : World} {lo : Nat} {A : Option Addr} {n c : Nat} {Us : List VC} {B : Option Addr} {m k : Nat} {Es : List EC}
theorem Cl.wr (h : Cl W lo A n c Us B m k Es) : Wr W lo A n c Us B m k Es := ⟨h.v, h.dg.e, h.dg.r⟩
theorem Wr.dg (h : Wr W lo A n c Us B m k Es) : DgIn W A n c Us B m k Es := ⟨own_rds h.v, h.e, h.r⟩
theorem Wr.bl (h : Wr W lo A n c Us B m k Es) (hb : Below W.heap.size W W') : Wr W' lo A n c Us B m k Es := ⟨own_up h.v hb, h.e.bl hb, fun x hx => (h.r x hx).bl hb⟩
theorem Wr.al (h : Wr W lo A n c Us B m k Es) (o : Obj) : Wr (W.alloc o) lo A n c Us B m k Es := h.bl (below1 W o)
theorem Wr.dr (h : Wr W lo A n c Us B m k Es) : Wr W.drew lo A n c Us B m k Es := h.bl ((Below.refl _ _).drew)
theorem rg_poke {g i : Nat} {R : Rg} (h : RgOk W R) {A1 : Option Addr} {n1 c1 : Nat} (hp : W.cell? ⟨g, i, none⟩ = some (.slice A1 n1 c1)) (u : Value) : RgOk (W.setCell ⟨g, i, none⟩ u) R :=
  ⟨h.1, by rw [size_setCell]; exact rds_poke h.2 hp no_slice_d u⟩
theorem Wr.far (h : Wr W lo A n c Us B m k Es) {g i : Nat} {A1 : Option Addr} {n1 c1 : Nat} (hp : W.cell? ⟨g, i, none⟩ = some (.slice A1 n1 c1)) (hg : ∀ a, A = some a → g ≠ a.block) (u : Value) : Wr (W.setCell ⟨g, i, none⟩ u) lo A n c Us B m k Es :=
  ⟨own_cell_far h.v (fun e => by
    cases A with
    | none => cases e
    | some a =>
      exact hg a rfl (Option.some.inj e)) u, by rw [size_setCell]; exact rds_poke h.e hp no_slice_e u, fun x hx => rg_poke (h.r x hx) hp u⟩
theorem Wr.put (h : Wr W lo A n c Us B m k Es) {j : Nat} {x : VC} (hx : Us[j]? = some x) (hj : j < n) (R : Rg) (hR : RgOk W R) :
    ∃ g, A = some ⟨g, 0, none⟩ ∧ lo ≤ g ∧ (∃ cs, Whole W g 42 cs) ∧ W.cell? ⟨g, j * 5 + 2, none⟩ = some (.slice x.2.1.1 x.2.1.2.1 x.2.1.2.2.1) ∧ W.frozen? ⟨g, j * 5 + 2, none⟩ = false ∧
      Wr (W.setCell ⟨g, j * 5 + 2, none⟩ (.slice R.1 R.2.1 R.2.2.1)) lo A n c (Us.set j (x.1, R, x.2.2)) B m k Es := by
  obtain ⟨g, junk, e, hlo, hw, hc, hf, ho⟩ := own_poke (i := 2) (y := (x.1, R, x.2.2)) (u := .slice R.1 R.2.1 R.2.2.1) vC_len h.v hx hj (by omega) rfl
  have hc2 : W.cell? ⟨g, j * 5 + 2, none⟩ = some (.slice x.2.1.1 x.2.1.2.1 x.2.1.2.2.1) := hc.trans rfl
  refine ⟨g, e, hlo, ⟨_, hw⟩, hc2, hf, ho, by rw [size_setCell]; exact rds_poke h.e hc2 no_slice_e _, fun y hy => rg_poke ?_ hc2 _⟩
  rcases List.mem_or_eq_of_mem_set hy with hy | rfl
  · exact h.r y hy
  · exact hR
end
end Go.Proofs.Ytpindjknngcccaa

/- The document's Clone. -/
namespace Go.Proofs.Ytpindjknngcccaa
open Go.RowKit
set_option linter.unusedSimpArgs false
set_option linter.unusedVariables false


theorem info_dartc : (Try.prog.info? 39).map (fun i => (i.zero, i.size, i.bytes)) = some (some (.agg #[.int .i64 0, .int .i64 0, .int .i64 0]), 3, 24) := by kernel_rfl
theorem own_lo0 {W : World} {B B' n : Nat} {e : TypeId} {size : Nat} {v : Value} {xs : List Value} (h : W.ownsRow B e size v n xs) (hB : B' ≤ B) : W.ownsRow B' e size v n xs := by
  refine ⟨h.1, ?_⟩
  rcases h.2 with hn | ⟨g, cap, cur, h1, hb, rest⟩
  · exact .inl hn
  · exact .inr ⟨g, cap, cur, h1, Nat.le_trans hB hb, rest⟩
/-- What is appended onto an empty row just made is a row of one's own. -/
theorem fresh_copy {P : Program} (W : World) (t ty e : TypeId) (i : TypeInfo) (z : Value) (size bytes : Nat) (ht : P.underlying t = some (.slice e)) (hi : P.info? e = some i) (hz : i.zero = some z) (hsize : i.size = size) (hby : i.bytes = bytes) (hzs : z.cells.size = size) (hs0 : 0 < size)
    (A : Option Addr) (m c : Nat) (news : List Value) (hr : RdS W W.heap.size size A m c news) (h1 : ∀ u ∈ news, u.oneCell' = true) (hm : m ≤ 1000000) (hb : bytes ≤ 100) :
    ∃ A' c' W', (Builtin.append_ #[t, t] ty #[.slice (some ⟨W.heap.size, 0, none⟩) 0 0, .slice A m c]).run P (W.alloc (.cells #[] e)) = .ok (.slice A' m c') W' ∧ W'.ownsRow W.heap.size e size (.slice A' m c') m news ∧ Below W.heap.size W W' := by
  have how : Ow W W.heap.size e size (.slice (some ⟨W.heap.size, 0, none⟩) 0 0) 0 [] (W.alloc (.cells #[] e)) := ⟨World.ownsRow_made W #[] 0 (Nat.le_refl _) (Nat.zero_le _) (by simp), bel_al (Below.refl _ W) _, Nat.le_refl _, by simp⟩
  have hsum : (0 + m) * bytes ≤ 140737488355328 := Nat.le_trans (Nat.mul_le_mul_left _ hb) (by omega)
  obtain ⟨v', W', hrun, ho, hb2, hg, -⟩ := Ow.app2 (P := P) t ty e i z size bytes W.heap.size ht hi hz hsize hby hzs hs0 _ _ _ how _ A m c news (hr.al (.cells #[] e)) h1 (by unfold maxLen; omega) hsum
  rw [Nat.zero_add, List.nil_append] at ho
  obtain ⟨A', c', rfl, -⟩ := ho.rds
  exact ⟨A', c', W', hrun, ho.own, ho.below⟩
/-- A diagram that is copied, vertex by vertex. -/
structure ClS (W : World) (lo : Nat) (A : Option Addr) (n c : Nat) (Ws : List VC) (B : Option Addr) (m k : Nat) (Es : List EC) : Prop where
  v : W.ownsRow lo 42 5 (.slice A n c) n (rowsV vC Ws)
  e : W.ownsRow lo 37 4 (.slice B m k) m (rowsV eC Es)
  r : ∀ x ∈ Ws, W.ownsRow lo 39 3 (.slice x.2.1.1 x.2.1.2.1 x.2.1.2.2.1) x.2.1.2.1 (dartsV x.2.1.2.2.2)
section
variable {W W' : World} {lo : Nat} {A : Option Addr} {n c : Nat} {Ws : List VC} {B : Option Addr} {m k : Nat} {Es : List EC}
theorem ClS.bl (h : ClS W lo A n c Ws B m k Es) (hb : Below W.heap.size W W') : ClS W' lo A n c Ws B m k Es := ⟨own_up h.v hb, own_up h.e hb, fun x hx => own_up (h.r x hx) hb⟩
theorem ClS.al (h : ClS W lo A n c Ws B m k Es) (o : Obj) : ClS (W.alloc o) lo A n c Ws B m k Es := h.bl (below1 W o)
theorem ClS.wr (h : ClS W lo A n c Ws B m k Es) : Wr W lo A n c Ws B m k Es := ⟨h.v, own_rds h.e, fun x hx => ⟨own_cap (h.r x hx), own_rds (h.r x hx)⟩⟩
/-- A write to a block of another type. -/
theorem ClS.far (h : ClS W lo A n c Ws B m k Es) {g i : Nat} {T : TypeId} {cs : List Value} (hw : Whole W g T cs) (h1 : T ≠ 42) (h2 : T ≠ 37) (h3 : T ≠ 39) (u : Value) : ClS (W.setCell ⟨g, i, none⟩ u) lo A n c Ws B m k Es :=
  ⟨own_cell_far h.v (own_ne h.v hw h1) u, own_cell_far h.e (own_ne h.e hw h2) u, fun x hx => own_cell_far (h.r x hx) (own_ne (h.r x hx) hw h3) u⟩
theorem ClS.far2 (h : ClS W lo A n c Ws B m k Es) {g i : Nat} {cs : List Value} (hw : Whole W g 42 cs) (hv : some g ≠ (Value.slice A n c).ownBlock) (u : Value) : ClS (W.setCell ⟨g, i, none⟩ u) lo A n c Ws B m k Es :=
  ⟨own_cell_far h.v hv u, own_cell_far h.e (own_ne h.e hw (by decide)) u, fun x hx => own_cell_far (h.r x hx) (own_ne (h.r x hx) hw (by decide)) u⟩
/-- One vertex more. -/
theorem ClS.push {P : Program} (h : ClS W lo A n c Ws B m k Es) (x : VC) (hx : W.ownsRow lo 39 3 (.slice x.2.1.1 x.2.1.2.1 x.2.1.2.2.1) x.2.1.2.1 (dartsV x.2.1.2.2.2)) (t ty : TypeId) (i : TypeInfo) (z : Value) (ht : P.underlying t = some (.slice 42)) (hi : P.info? 42 = some i) (hz : i.zero = some z) (hsize : i.size = 5) (hby : i.bytes = 64) (hzs : z.cells.size = 5)
    (hn : n ≤ 1000000) (hlo : lo ≤ W.heap.size) (g : Nat) (hr : RdS W W.heap.size 5 (some ⟨g, 0, none⟩) 1 1 (vC x)) :
    ∃ A' c' W', (Builtin.append_ #[t, t] ty #[.slice A n c, .slice (some ⟨g, 0, none⟩) 1 1]).run P W = .ok (.slice A' (n + 1) c') W' ∧ ClS W' lo A' (n + 1) c' (Ws ++ [x]) B m k Es ∧ Below lo W W' ∧ W.grownBy W' (Value.slice A n c).ownBlock := by
  obtain ⟨v', W2, hrun, hown, hg, hn0, hb⟩ := run_append_own_at (P := P) W lo t ty 42 i z 5 64 ht hi hz hsize hby hzs (by decide) _ n _ h.v ⟨g, 0, none⟩ 1 1 _ hr.len (hr.cell _ rfl) (vC_one x) (by unfold maxLen; omega) (by omega) hlo
  have hk : ∀ k, (Value.slice A n c).ownBlock = some k → lo ≤ k := fun k hk => (h.v.lt k hk).1
  obtain ⟨A', c', rfl, _⟩ := RdS.of_own hown
  have e : rowsV vC Ws ++ vC x = rowsV vC (Ws ++ [x]) := by rw [rowsV_app]; simp [rowsV]
  rw [e] at hown
  have keep : ∀ {T : TypeId} {s : Nat} {v : Value} {j : Nat} {xs : List Value}, W.ownsRow lo T s v j xs → 42 ≠ T → W2.ownsRow lo T s v j xs := fun {T s v j xs} ho hT => ho.kept hg (by
    cases hv : v.ownBlock with
    | none => exact .inl rfl
    | some g => exact .inr fun q => own_two h.v ho hT q.symm hv)
  refine ⟨A', c', W2, hrun, ⟨hown, keep h.e (by decide), fun y hy => ?_⟩, (Below.refl lo W).grown hg hlo hk, hg⟩
  rcases List.mem_append.1 hy with hy | hy
  · exact keep (h.r y hy) (by decide)
  · obtain rfl := List.mem_singleton.1 hy
    exact keep hx (by decide)
end
set_option maxRecDepth 100000 in
set_option maxHeartbeats 4000000 in
theorem rclone_any (A : Option Addr) (n c : Nat) (Vs : List VC) (B : Option Addr) (m k : Nat) (Es : List EC) (w : World) (h : DgIn w A n c Vs B m k Es) (hn : n ≤ 1000000) (hm : m ≤ 1000000) (hr : ∀ x ∈ Vs, x.2.1.2.1 ≤ 1000000) :
    Calls Try.prog 23 #[.agg #[.slice A n c, .slice B m k]] w fun e w' => ∃ A' c' B' k' Ws, e = .returned (.agg #[.slice A' n c', .slice B' m k']) ∧ ClS w' w.heap.size A' n c' Ws B' m k' Es ∧ Ws.map vS = Vs.map vS ∧ Below w.heap.size w w' := by
  have HV := Lib.hid h.v
  have HE := Lib.hid h.e
  have HRg := Lib.hid h.r
  have Hlv := Lib.hid (h.v.rlen vC_len (by decide))
  have Hhr := Lib.hid hr
  obtain ⟨iV, hiv, hzv0, hzv1, hzv2⟩ := info_partsD info_vertex
  obtain ⟨iE, hie, hze0, hze1, hze2⟩ := info_partsD info_edge
  obtain ⟨iD, hid, hzd0, hzd1, hzd2⟩ := info_partsD info_dartc
  clear h hr
  go_enter Try.func23, Try.ntmps23
  go_upto_region 1 with fail
  have hx0 : Whole ((w.alloc (.cells #[.slice A n c, .slice B m k] 25)).alloc (.cells #[.slice none 0 0, .slice none 0 0] 25)) (w.heap.size) 25 [.slice A n c, .slice B m k] := ((Whole.new_ w 25 [.slice A n c, .slice B m k]).alloc (.cells #[.slice none 0 0, .slice none 0 0] 25))
  have hx1 : Whole ((w.alloc (.cells #[.slice A n c, .slice B m k] 25)).alloc (.cells #[.slice none 0 0, .slice none 0 0] 25)) (w.heap.size + 1) 25 [.slice none 0 0, .slice none 0 0] := (Whole.new2 (w := (w.alloc (.cells #[.slice A n c, .slice B m k] 25))) (by simp))
  have hbl : Below w.heap.size w ((w.alloc (.cells #[.slice A n c, .slice B m k] 25)).alloc (.cells #[.slice none 0 0, .slice none 0 0] 25)) := (bel_al (below1 w (.cells #[.slice A n c, .slice B m k] 25)) (.cells #[.slice none 0 0, .slice none 0 0] 25))
  have hsz : w.heap.size + 1 + 1 ≤ (((w.alloc (.cells #[.slice A n c, .slice B m k] 25)).alloc (.cells #[.slice none 0 0, .slice none 0 0] 25))).heap.size := by simp
  obtain ⟨W0, gW0⟩ : ∃ z, ((w.alloc (.cells #[.slice A n c, .slice B m k] 25)).alloc (.cells #[.slice none 0 0, .slice none 0 0] 25)) = z := ⟨_, rfl⟩
  rw [gW0] at hx0 hx1 hbl hsz
  obtain ⟨b1, gb1⟩ : ∃ z, w.heap.size + 1 = z := ⟨_, rfl⟩
  rw [gb1] at hx1
  obtain ⟨b0, gb0⟩ : ∃ z, w.heap.size = z := ⟨_, rfl⟩
  rw [gb0] at hx0
  have HX0 := Lib.hid hx0
  have HX1 := Lib.hid hx1
  have HB0 := Lib.hid hbl
  have HS0 := Lib.hid hsz
  have Gb0 := Lib.hid gb0
  have Lb0 : RowKit.Hid (w.heap.size ≤ b0) := Lib.hid (by omega)
  have Gb1 := Lib.hid gb1
  have Lb1 : RowKit.Hid (w.heap.size ≤ b1) := Lib.hid (by omega)
  have N01 : RowKit.Hid (b0 ≠ b1) := Lib.hid (by omega)
  rw [gW0, gb1, gb0]
  clear gW0 hbl hsz hx0 hx1 gb0 gb1
  obtain ⟨Be, ke, W1, hrun, hoe, hbe⟩ := fresh_copy (P := Try.prog) W0 23 23 37 iE _ 4 40 Try.underlying23 hie hze0 hze1 hze2 rfl (by decide) B m k _ (HE.out.bl HB0.out) (rowsV_one eC eC_one Es) hm (by decide)
  have c1 := (HX0.out.al (.cells #[] 37)).cell (i := 1) rfl
  go_wp2_with (first
    | (at_builtin
       refine wl_run (some 9) rfl (by rfl) (exec_append (by rfl) (by rfl) (by rfl) hrun) ?_))
  have HX01 := Lib.hid ((HX0.out.bl hbe).al (.cells #[.slice none 0 0, .slice Be m ke] 25))
  have HX11 := Lib.hid ((HX1.out.bl hbe).al (.cells #[.slice none 0 0, .slice Be m ke] 25))
  have HX31 := Lib.hid (Whole.new2 (w := W1) (t := 25) (cs := [.slice none 0 0, .slice Be m ke]) rfl)
  have HB1 := Lib.hid (bel_al (bel_bl HB0.out hbe) (.cells #[.slice none 0 0, .slice Be m ke] 25))
  have HC1 : RowKit.Hid (ClS (W1.alloc (.cells #[.slice none 0 0, .slice Be m ke] 25)) w.heap.size none 0 0 [] Be m ke Es) := Lib.hid ⟨World.ownsRow_nil _ _ _ _, own_up (own_lo0 hoe HB0.out.size) (below1 _ _), fun x hx => (by cases hx)⟩
  have Hb3 : RowKit.Hid (w.heap.size ≤ W1.heap.size) := Lib.hid (by have := HB0.out.size; have := hbe.size; omega)
  have Hn03 : RowKit.Hid (b0 ≠ W1.heap.size) := Lib.hid (by have := (HX0.out.bl hbe).lt; omega)
  have Hn13 : RowKit.Hid (b1 ≠ W1.heap.size) := Lib.hid (by have := (HX1.out.bl hbe).lt; omega)
  clear hrun hoe hbe c1
  obtain ⟨W2, gW2⟩ : ∃ z, W1.alloc (.cells #[.slice none 0 0, .slice Be m ke] 25) = z := ⟨_, rfl⟩
  obtain ⟨b3, gb3⟩ : ∃ z, W1.heap.size = z := ⟨_, rfl⟩
  rw [gW2] at HX01 HX11 HX31 HB1 HC1 ⊢
  rw [gb3] at HX31 Hb3 Hn03 Hn13 ⊢
  clear gW2 gb3 HX0 HX1 HB0 HS0
  go_loopw [4] (fun si wr => ∃ (j : Nat) (A2 : Option Addr) (c2 : Nat) (Ws : List VC), j ≤ n ∧ si = .int .i64 j ∧ RowKit.Hid (Below w.heap.size w wr) ∧ RowKit.Hid (Whole wr b0 25 [.slice A n c, .slice B m k]) ∧ RowKit.Hid (Whole wr b1 25 [.slice none 0 0, .slice none 0 0]) ∧ RowKit.Hid (Whole wr b3 25 [.slice A2 j c2, .slice Be m ke]) ∧ RowKit.Hid (ClS wr w.heap.size A2 j c2 Ws Be m ke Es) ∧ RowKit.Hid (Ws.map vS = (Vs.take j).map vS)) (fun si _ => n - (intOf si).toNat)
  case atStart => exact ⟨0, none, 0, [], by omega, rfl, HB1, HX01, HX11, HX31, HC1, Lib.hid rfl⟩
  case round =>
    clear HB1 HX01 HX11 HX31 HC1
    obtain ⟨j, A2, c2, Ws, hj, rfl, HB, HX0, HX1, HX3, HC, HM⟩ := hrel
    obtain ⟨wo, gwo⟩ : ∃ z, wr = z := ⟨_, rfl⟩
    rw [gwo] at HB HX0 HX1 HX3 HC ⊢
    clear gwo
    have cb := HX0.out.cell (i := 0) rfl
    by_cases hjn : j < n
    · obtain ⟨v, hx⟩ : ∃ v, Vs[j]? = some v := ⟨_, List.getElem?_eq_getElem (by have := Hlv.out; omega)⟩
      have hMn : (Vs.take (j + 1)).map vS = (Vs.take j).map vS ++ [vS v] := by
        rw [List.take_add_one, hx]
        simp
      have hvm := List.mem_of_getElem? hx
      have hrg := HRg.out v hvm
      have hrn := Hhr.out v hvm
      obtain ⟨bb, off, rfl, hbB, hpl⟩ := HV.out.place vC_len (by decide) (by omega)
      have hbw := HB.out
      have q0 := hpl j _ hx 0 _ rfl
      have q1 := hpl j _ hx 1 _ rfl
      have q2 := hpl j _ hx 2 _ rfl
      have q3 := hpl j _ hx 3 _ rfl
      have q4 := hpl j _ hx 4 _ rfl
      simp only [Addr.add_lit, Nat.add_zero] at q0 q1 q2 q3 q4
      have l0 := (hbw.cell (p := ⟨bb, off + j * 5, none⟩) hbB).trans q0
      have l1 := (hbw.cell (p := ⟨bb, off + j * 5 + 1, none⟩) hbB).trans q1
      have l2 := (hbw.cell (p := ⟨bb, off + j * 5 + 2, none⟩) hbB).trans q2
      have l3 := (hbw.cell (p := ⟨bb, off + j * 5 + 3, none⟩) hbB).trans q3
      have l4 := (hbw.cell (p := ⟨bb, off + j * 5 + 4, none⟩) hbB).trans q4
      clear hbw q0 q1 q2 q3 q4
      obtain ⟨⟨i1, i2⟩, ⟨rA, rn, rc, rL⟩, lb, at_⟩ := v
      replace hrn : rn ≤ 1000000 := hrn
      have HR : RowKit.Hid (RdS w w.heap.size 3 rA rn rc (dartsV rL)) := Lib.hid hrg.2
      have HMn := Lib.hid hMn
      clear hx hMn hvm hrg hbB hpl
      go_upto_region 6 with fail
      clear cb l0 l1 l2 l3 l4
      have HB1 := Lib.hid (bel_al HB.out (.cells #[.int .i64 i1, .int .i64 i2, .slice rA rn rc, .string lb, .int .i64 at_] 42))
      have HX01 := Lib.hid (HX0.out.al (.cells #[.int .i64 i1, .int .i64 i2, .slice rA rn rc, .string lb, .int .i64 at_] 42))
      have HX11 := Lib.hid (HX1.out.al (.cells #[.int .i64 i1, .int .i64 i2, .slice rA rn rc, .string lb, .int .i64 at_] 42))
      have HX31 := Lib.hid (HX3.out.al (.cells #[.int .i64 i1, .int .i64 i2, .slice rA rn rc, .string lb, .int .i64 at_] 42))
      have HC1 := Lib.hid (HC.out.al (.cells #[.int .i64 i1, .int .i64 i2, .slice rA rn rc, .string lb, .int .i64 at_] 42))
      have HY1 := Lib.hid (Whole.new2 (w := wo) (t := 42) (cs := [.int .i64 i1, .int .i64 i2, .slice rA rn rc, .string lb, .int .i64 at_]) rfl)
      have HLy : RowKit.Hid (w.heap.size ≤ wo.heap.size) := Lib.hid HB.out.size
      have Hnv : RowKit.Hid (some wo.heap.size ≠ (Value.slice A2 j c2).ownBlock) := Lib.hid (fun e => by have := (HC.out.v.lt _ e.symm).2; omega)
      obtain ⟨W3, gW3⟩ : ∃ z, wo.alloc (.cells #[.int .i64 i1, .int .i64 i2, .slice rA rn rc, .string lb, .int .i64 at_] 42) = z := ⟨_, rfl⟩
      obtain ⟨b5, gb5⟩ : ∃ z, wo.heap.size = z := ⟨_, rfl⟩
      rw [gW3] at HB1 HX01 HX11 HX31 HC1 HY1 ⊢
      rw [gb5] at HY1 HLy Hnv ⊢
      clear gW3 gb5 HB HX0 HX1 HX3 HC
      obtain ⟨A8, c8, W4, hrun, hor, hbr⟩ := fresh_copy (P := Try.prog) W3 40 40 39 iD _ 3 24 Try.underlying40 hid hzd0 hzd1 hzd2 rfl (by decide) rA rn rc _ (HR.out.up HB1.out HB1.out.size) (dartsV_one rL) hrn (by decide)
      have d2 := (HY1.out.al (.cells #[] 39)).cell (i := 2) rfl
      have e2 := (HY1.out.bl hbr).cell (i := 2) rfl
      have f2 := (HY1.out.bl hbr).free 2
      go_upto_region 7 with (first
        | (at_builtin
           refine wl_run (some 26) rfl (by rfl) (exec_append (by rfl) (by rfl) (by rfl) hrun) ?_))
      clear d2 e2 f2
      have HY4 := Lib.hid (HY1.out.bl hbr)
      have HX04 := Lib.hid (HX01.out.bl hbr)
      have HX14 := Lib.hid (HX11.out.bl hbr)
      have HX34 := Lib.hid (HX31.out.bl hbr)
      have HB4 := Lib.hid (bel_bl HB1.out hbr)
      have HC4 := Lib.hid (HC1.out.bl hbr)
      have HO4 := Lib.hid (own_lo0 hor HB1.out.size)
      clear hrun hor hbr HB1 HX01 HX11 HX31 HC1 HY1
      have HY5 := Lib.hid (HY4.out.set_ 2 (.slice A8 rn c8))
      have HX05 := Lib.hid (HX04.out.set_far' (i := 2) (HX04.out.ne_ HY4.out (by decide)) (.slice A8 rn c8))
      have HX15 := Lib.hid (HX14.out.set_far' (i := 2) (HX14.out.ne_ HY4.out (by decide)) (.slice A8 rn c8))
      have HX35 := Lib.hid (HX34.out.set_far' (i := 2) (HX34.out.ne_ HY4.out (by decide)) (.slice A8 rn c8))
      have HB5 := Lib.hid (HB4.out.setCell (p := ⟨b5, 2, none⟩) HLy.out (.slice A8 rn c8))
      have HC5 := Lib.hid (HC4.out.far2 (i := 2) HY4.out Hnv.out (.slice A8 rn c8))
      have HO5 := Lib.hid (own_cell_far (i := 2) HO4.out (own_ne HO4.out HY4.out (by decide)) (.slice A8 rn c8))
      obtain ⟨W5, gW5⟩ : ∃ z, W4.setCell ⟨b5, 2, none⟩ (.slice A8 rn c8) = z := ⟨_, rfl⟩
      rw [gW5] at HY5 HX05 HX15 HX35 HB5 HC5 HO5 ⊢
      clear gW5 HY4 HX04 HX14 HX34 HB4 HC4 HO4
      replace HY5 : RowKit.Hid (Whole W5 b5 42 (vC ((i1, i2), (A8, rn, c8, rL), lb, at_))) := HY5
      have c3 := HX35.out.cell (i := 0) rfl
      refine wp_region_lit ?_
      refine wl_read (v := ?_) (some 28) rfl (by rfl) ?_ ?_
      rotate_left
      · go_simp; (try with_reducible rfl)
      simp only [Act.put, List.setIfInBounds_toArray, List.set_cons_zero, List.set_cons_succ]
      refine wl_read (v := ?_) (some 29) rfl (by rfl) ?_ ?_
      rotate_left
      · go_simp; (try with_reducible rfl)
      simp only [Act.put, List.setIfInBounds_toArray, List.set_cons_zero, List.set_cons_succ]
      refine wl_load (some 30) rfl (by rfl) 42 (.tmp 5) rfl (b5) rfl 42 (vC ((i1, i2), (A8, rn, c8, rL), lb, at_)) _ HY5.out Try.underlying42 rfl (by kernel_rfl) ?_
      simp only [Act.put, List.setIfInBounds_toArray, List.set_cons_zero, List.set_cons_succ]
      clear c3
      refine wl_buildSlice (some 31) rfl (by rfl) 22 42 1 #[(0, .tmp 30)] (by rfl) Try.underlying22 (vC ((i1, i2), (A8, rn, c8, rL), lb, at_)).toArray (by kernel_rfl) ?_
      simp only [Act.put, List.setIfInBounds_toArray, List.set_cons_zero, List.set_cons_succ]
      obtain ⟨A9, c9, W6, hrun, hC6, hb6, hg6⟩ := (HC5.out.al (.cells (vC ((i1, i2), (A8, rn, c8, rL), lb, at_)).toArray 42)).push (P := Try.prog) ((i1, i2), (A8, rn, c8, rL), lb, at_) (own_up HO5.out (below1 _ _)) 22 22 iV _ Try.underlying22 hiv hzv0 hzv1 hzv2 rfl (by omega) (by have := HB5.out.size; simp; omega) W5.heap.size (RdS.of_whole (Whole.new2 rfl) rfl)
      refine wl_run (some 32) rfl (by rfl) (exec_append (by rfl) (by rfl) (by rfl) hrun) ?_
      simp only [Act.put, List.setIfInBounds_toArray, List.set_cons_zero, List.set_cons_succ]
      have n0 := own_ne HC5.out.v HX05.out (by decide)
      have n1 := own_ne HC5.out.v HX15.out (by decide)
      have n3 := own_ne HC5.out.v HX35.out (by decide)
      have HX06 := Lib.hid ((HX05.out.al (.cells (vC ((i1, i2), (A8, rn, c8, rL), lb, at_)).toArray 42)).grown hg6 n0)
      have HX16 := Lib.hid ((HX15.out.al (.cells (vC ((i1, i2), (A8, rn, c8, rL), lb, at_)).toArray 42)).grown hg6 n1)
      have HX36 := Lib.hid ((HX35.out.al (.cells (vC ((i1, i2), (A8, rn, c8, rL), lb, at_)).toArray 42)).grown hg6 n3)
      have HB6 : RowKit.Hid (Below w.heap.size w W6) := Lib.hid ((bel_al HB5.out (.cells (vC ((i1, i2), (A8, rn, c8, rL), lb, at_)).toArray 42)).trans hb6)
      have HC6 := Lib.hid hC6
      clear hrun hC6 hb6 hg6 n0 n1 n3 HY5 HX05 HX15 HX35 HB5 HC5 HO5
      have c3 := HX36.out.cell (i := 0) rfl
      have f3 := HX36.out.free 0
      have HX07 := Lib.hid (HX06.out.set_far' (i := 0) Hn03.out (.slice A9 (j + 1) c9))
      have HX17 := Lib.hid (HX16.out.set_far' (i := 0) Hn13.out (.slice A9 (j + 1) c9))
      have HX37 := Lib.hid (HX36.out.set_ 0 (.slice A9 (j + 1) c9))
      have HB7 := Lib.hid (HB6.out.setCell (p := ⟨b3, 0, none⟩) Hb3.out (.slice A9 (j + 1) c9))
      have HC7 := Lib.hid (HC6.out.far (i := 0) HX36.out (by decide) (by decide) (by decide) (.slice A9 (j + 1) c9))
      have HM7 : RowKit.Hid ((Ws ++ [((i1, i2), (A8, rn, c8, rL), lb, at_)]).map vS = (Vs.take (j + 1)).map vS) := Lib.hid (by rw [HMn.out, List.map_append, HM.out]; rfl)
      clear HM HMn
      go_wp2
      go_roundw
      case rel => exact ⟨j + 1, A9, c9, _, by omega, by go_num, HB7, HX07, HX17, HX37, HC7, HM7⟩
      case measure => simp [intOf]; omega
    · obtain rfl : n = j := by omega
      have hM := HM.out
      rw [List.take_of_length_le (by have := Hlv.out; omega)] at hM
      have hx1 := (HX1.out.set_ 0 (.slice A2 n c2)).set_ 1 (.slice Be m ke)
      have hc1 := (HC.out.far (i := 0) HX1.out (by decide) (by decide) (by decide) (.slice A2 n c2)).far (i := 1) (HX1.out.set_ 0 (.slice A2 n c2)) (by decide) (by decide) (by decide) (.slice Be m ke)
      have hb1 := (HB.out.setCell (p := ⟨b1, 0, none⟩) Lb1.out (.slice A2 n c2)).setCell (p := ⟨b1, 1, none⟩) Lb1.out (.slice Be m ke)
      have e0 := HX3.out.cell (i := 0) rfl
      have e1 := HX3.out.cell (i := 1) rfl
      have f0 := HX1.out.free 0
      have f1 := HX1.out.free 1
      have k0 := HX1.out.cell (i := 0) rfl
      have k1 := HX1.out.cell (i := 1) rfl
      have Hpost := Lib.hid (show ∃ A' c' B' k' Us, (Ending.returned (.agg #[.slice A2 n c2, .slice Be m ke])) = .returned (.agg #[.slice A' n c', .slice B' m k']) ∧ ClS _ w.heap.size A' n c' Us B' m k' Es ∧ Us.map vS = Vs.map vS ∧ Below w.heap.size w _ from ⟨A2, c2, Be, ke, Ws, rfl, hc1, hM, hb1⟩)
      have Hx1 := Lib.hid hx1
      clear hx1 hM hc1 hb1 HC HM HB HX0 HX1 HX3
      go_wp2
      exact ret_whole rfl b1 rfl Hx1.out Try.underlying25 rfl (by kernel_rfl) rfl Hpost.out
end Go.Proofs.Ytpindjknngcccaa

/- A diagram whose vertices and edges are of one's own; its rings turned the other way round, in numbers. -/
namespace Go.Proofs.Ytpindjknngcccaa
open Go.RowKit
set_option linter.unusedSimpArgs false
set_option linter.unusedVariables false

structure Wro (W : World) (lo : Nat) (A : Option Addr) (n c : Nat) (Us : List VC) (B : Option Addr) (m k : Nat) (Es : List EC) : Prop where
  v : W.ownsRow lo 42 5 (.slice A n c) n (rowsV vC Us)
  e : W.ownsRow lo 37 4 (.slice B m k) m (rowsV eC Es)
  r : ∀ x ∈ Us, RgOk W x.2.1
section
variable {W W' : World} {lo : Nat} {A : Option Addr} {n c : Nat} {Us : List VC} {B : Option Addr} {m k : Nat} {Es : List EC}
theorem ClS.wro (h : ClS W lo A n c Us B m k Es) : Wro W lo A n c Us B m k Es := ⟨h.v, h.e, fun x hx => ⟨own_cap (h.r x hx), own_rds (h.r x hx)⟩⟩
theorem Wro.dg (h : Wro W lo A n c Us B m k Es) : DgIn W A n c Us B m k Es := ⟨own_rds h.v, own_rds h.e, h.r⟩
theorem Wro.bl (h : Wro W lo A n c Us B m k Es) (hb : Below W.heap.size W W') : Wro W' lo A n c Us B m k Es := ⟨own_up h.v hb, own_up h.e hb, fun x hx => (h.r x hx).bl hb⟩
theorem Wro.al (h : Wro W lo A n c Us B m k Es) (o : Obj) : Wro (W.alloc o) lo A n c Us B m k Es := h.bl (below1 W o)
theorem Wro.dr (h : Wro W lo A n c Us B m k Es) : Wro W.drew lo A n c Us B m k Es := h.bl ((Below.refl _ _).drew)
theorem Wro.put (h : Wro W lo A n c Us B m k Es) {j : Nat} {x : VC} (hx : Us[j]? = some x) (hj : j < n) (R : Rg) (hR : RgOk W R) :
    ∃ g, A = some ⟨g, 0, none⟩ ∧ lo ≤ g ∧ (∃ cs, Whole W g 42 cs) ∧ W.cell? ⟨g, j * 5 + 2, none⟩ = some (.slice x.2.1.1 x.2.1.2.1 x.2.1.2.2.1) ∧ W.frozen? ⟨g, j * 5 + 2, none⟩ = false ∧
      Wro (W.setCell ⟨g, j * 5 + 2, none⟩ (.slice R.1 R.2.1 R.2.2.1)) lo A n c (Us.set j (x.1, R, x.2.2)) B m k Es := by
  obtain ⟨g, junk, e, hlo, hw, hc, hf, ho⟩ := own_poke (i := 2) (y := (x.1, R, x.2.2)) (u := .slice R.1 R.2.1 R.2.2.1) vC_len h.v hx hj (by omega) rfl
  have hc2 : W.cell? ⟨g, j * 5 + 2, none⟩ = some (.slice x.2.1.1 x.2.1.2.1 x.2.1.2.2.1) := hc.trans rfl
  refine ⟨g, e, hlo, ⟨_, hw⟩, hc2, hf, ho, own_cell_far h.e (own_ne h.e hw (by decide)) _, fun y hy => rg_poke ?_ hc2 _⟩
  rcases List.mem_or_eq_of_mem_set hy with hy | rfl
  · exact h.r y hy
  · exact hR
end
end Go.Proofs.Ytpindjknngcccaa

/- The other way round: the turned diagram, its faces. -/
namespace Go.Proofs.Ytpindjknngcccaa
open Go.RowKit
set_option linter.unusedSimpArgs false
set_option linter.unusedVariables false

theorem nxtR_get {R : List D} (hn : R.Nodup) {k : Nat} (hk : k < R.length) : nxtR R (R.getD k (0, 0, 0)) = R.getD ((k + 1) % R.length) (0, 0, 0) := by
  have e : R.getD k (0, 0, 0) = R[k] := by rw [List.getD_eq_getElem?_getD, List.getElem?_eq_getElem hk]; rfl
  rw [nxtR, e, hn.idxOf_getElem k hk]
theorem getD_at {R : List D} {y : D} (h : y ∈ R) : ∃ k, k < R.length ∧ R.getD k (0, 0, 0) = y := by
  obtain ⟨k, hk, e⟩ := List.getElem_of_mem h
  exact ⟨k, hk, by rw [List.getD_eq_getElem?_getD, List.getElem?_eq_getElem hk]; exact e⟩
theorem rot_get (X Y : List D) {k : Nat} (hk : k < (Y ++ X).length) : (Y ++ X).getD k (0, 0, 0) = (X ++ Y).getD ((k + X.length) % (X ++ Y).length) (0, 0, 0) := by
  rw [List.length_append] at hk
  rw [List.getD_eq_getElem?_getD, List.getD_eq_getElem?_getD, List.length_append]
  by_cases q : k < Y.length
  · rw [List.getElem?_append_left q, Nat.mod_eq_of_lt (by omega), List.getElem?_append_right (by omega), Nat.add_sub_cancel]
  · rw [List.getElem?_append_right (by omega)]
    have e : (k + X.length) % (X.length + Y.length) = k - Y.length := by
      rw [show k + X.length = (k - Y.length) + (X.length + Y.length) by omega, Nat.add_mod_right, Nat.mod_eq_of_lt (by omega)]
    rw [e, List.getElem?_append_left (by omega)]
theorem nxtR_rot {A B : List D} (h : Rot A B) (hn : A.Nodup) {y : D} (hy : y ∈ A) : nxtR B y = nxtR A y := by
  obtain ⟨X, Y, rfl, rfl⟩ := h
  have hnB : (Y ++ X).Nodup := List.perm_append_comm.nodup_iff.1 hn
  obtain ⟨k, hk, rfl⟩ := getD_at (R := Y ++ X) (List.perm_append_comm.mem_iff.1 hy)
  have hl : (Y ++ X).length = (X ++ Y).length := by simp [Nat.add_comm]
  have hpos : 0 < (X ++ Y).length := by omega
  rw [nxtR_get hnB hk, rot_get X Y (Nat.mod_lt _ (by omega)), rot_get X Y hk, nxtR_get hn (Nat.mod_lt _ hpos), hl]
  congr 1
  rw [Nat.mod_add_mod, Nat.mod_add_mod]
  congr 1
  omega
theorem nxV_same : ∀ (Us Ws : List VC) (f : D → Option D), Us.map (fun v => v.2.1.2.2.2) = Ws.map (fun v => v.2.1.2.2.2) → nxV Us f = nxV Ws f
  | [], [], _, _ => rfl
  | [], _ :: _, _, h => by cases h
  | _ :: _, [], _, h => by cases h
  | u :: r, v :: s, f, h => by
    rw [List.map_cons, List.map_cons] at h
    injection h with h1 h2
    rw [nxV, nxV, h1]
    exact nxV_same r s _ h2
theorem sigM_same {Us Ws : List VC} (h : Us.map vS = Ws.map vS) : sigM Us = sigM Ws := by
  have h1 := congrArg (List.map (fun s : (Int × Int) × List D × ByteArray × Int => s.2.1)) h
  rw [List.map_map, List.map_map] at h1
  exact nxV_same Us Ws _ h1
section
variable {Vs Us : List VC} {Es : List EC}
end
end Go.Proofs.Ytpindjknngcccaa
