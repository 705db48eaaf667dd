/- A dart that stands at another vertex, or at two: what a caller needs; a diagram whose rings are replaced one by one. -/
import Derived.Test.YtpindjknngcccaaDgMd
namespace Go.Proofs.Ytpindjknngcccaa
open Go.RowKit
set_option linter.unusedSimpArgs false
set_option linter.unusedVariables false


theorem vS_remV {x : D} {u v : VC} (h : vS u = vS v) : vS (remV x u) = vS (remV x v) := by
  obtain ⟨⟨u1, u2⟩, ⟨_, _, _, uL⟩, ul, ua⟩ := u
  obtain ⟨⟨v1, v2⟩, ⟨_, _, _, vL⟩, vl, va⟩ := v
  simp only [vS, Prod.mk.injEq] at h
  obtain ⟨⟨rfl, rfl⟩, rfl, rfl, rfl⟩ := h
  rfl
theorem rings_same {Us Ws : List VC} (h : Us.map vS = Ws.map vS) : ringsOf Us = ringsOf Ws := by
  have e : ∀ L : List VC, ringsOf L = ((L.map vS).map (fun s => s.2.1)).flatten := fun L => by
    rw [List.map_map]
    exact List.flatMap_def ..
  rw [e, e, h]
theorem at_some {Vs : List VC} {x : D} {p : Int × Int} (h : atV Vs x = (p, true)) : ∃ v ∈ Vs, x ∈ v.2.1.2.2.2 ∧ v.1 = p := by
  unfold atV at h
  split at h
  · rename_i v hv
    injection h with h1
    exact ⟨v, List.mem_of_find?_eq_some hv, by simpa using List.find?_some hv, h1⟩
  · simp at h
theorem vS_get {Us Ws : List VC} (h : Us.map vS = Ws.map vS) {k : Nat} {v : VC} (hv : Ws[k]? = some v) : ∃ u, Us[k]? = some u ∧ vS u = vS v := by
  have h1 : (Us.map vS)[k]? = some (vS v) := by rw [h, List.getElem?_map, hv]; rfl
  rw [List.getElem?_map] at h1
  cases hu : Us[k]? with
  | none => rw [hu] at h1; cases h1
  | some u =>
    rw [hu] at h1
    exact ⟨u, rfl, Option.some.inj h1⟩
theorem moves_num {Va Us Ws : List VC} {Ea : List EC} {x : D} {p : Int × Int} {k : Nat} {v : VC} (h : Formed Va Ea) (hx : atV Va x = (p, true)) (hv : Va[k]? = some v) (hne : v.1 ≠ p)
    (hu : Us.map vS = ((Va.map (remV x)).set k (insV x (remV x v))).map vS) (hw : Ws.map vS = (Va.set k (insV x v)).map vS) :
    formD Us Ea = 0 ∧ formD Ws Ea = 10 ∧ atV Us x = (v.1, true) ∧ ¬ (Us.map vS = Va.map vS) ∧ (∀ d ∈ ringsOf Us, d ∈ ringsOf Va) ∧ (∀ d ∈ ringsOf Ws, d ∈ ringsOf Va) ∧ (ringsOf Us).length ≤ 100 ∧ (ringsOf Ws).length ≤ 101 := by
  obtain ⟨q, hq, hxq, rfl⟩ := at_some hx
  have hvm := List.mem_of_getElem? hv
  have hno := h.else_ hq hxq hvm hne
  have hxr : x ∈ ringsOf Va := List.mem_flatMap.2 ⟨q, hq, hxq⟩
  have hM := h.moved hxr hv
  have hU : Formed Us Ea := hM.same hu
  have hk := (List.getElem?_eq_some_iff.1 hv).1
  have hlen := h.len
  have h40 := h.e40
  obtain ⟨u, hu1, hu2⟩ := vS_get hu (k := k) (v := insV x (remV x v)) (by rw [List.getElem?_set, if_pos rfl, if_pos (by simpa using hk)])
  have hxu : x ∈ u.2.1.2.2.2 := by
    have e : u.2.1.2.2.2 = turnD (insR (turnD (filD v.2.1.2.2.2 x)) (0, 0, 0) x) := congrArg (fun s : (Int × Int) × List D × ByteArray × Int => s.2.1) hu2
    rw [e]
    have hn : ¬ x ∈ turnD (filD v.2.1.2.2.2 x) := fun q => fil_not _ x ((turn_perm _).mem_iff.1 q)
    exact (turn_perm _).mem_iff.2 ((insR_perm hn).mem_iff.2 (List.mem_cons_self ..))
  have eR := rings_same hu
  have pR := hU.pm.trans h.pm.symm
  have eW := rings_same hw
  have pW := rings_set hv (x := x) (u' := insV x v) ((turn_perm _).trans (insR_perm hno))
  refine ⟨(form0 Us Ea).2 hU, (formD_same hw).trans (h.two hxr hv hno), ?_, ?_, fun d hd => pR.mem_iff.1 hd, fun d hd => ?_, ?_, ?_⟩
  · rw [hU.at (List.mem_of_getElem? hu1) hxu]
    exact congrArg (fun i => (i, true)) (congrArg (fun s : (Int × Int) × List D × ByteArray × Int => s.1) hu2)
  · intro e
    obtain ⟨u', hu', e'⟩ := vS_get e hv
    rw [hu1] at hu'
    obtain rfl := Option.some.inj hu'
    have e2 : u.2.1.2.2.2 = v.2.1.2.2.2 := congrArg (fun s : (Int × Int) × List D × ByteArray × Int => s.2.1) e'
    exact hno (e2 ▸ hxu)
  · rw [eW] at hd
    rcases List.mem_cons.1 (pW.mem_iff.1 hd) with rfl | hd
    · exact hxr
    · exact hd
  · rw [pR.length_eq]; omega
  · rw [eW, pW.length_eq, List.length_cons]; omega
theorem ring_len {Us : List VC} {u : VC} (h : u ∈ Us) : u.2.1.2.2.2.length ≤ (ringsOf Us).length := by
  obtain ⟨a, b, rfl⟩ := List.append_of_mem h
  rw [ringsOf_app, ringsOf_one]
  simp only [List.length_append]
  omega

/-- A cell that holds what a row does not hold is none of the row's. -/
theorem rds_poke {w : World} {B s n c : Nat} {A : Option Addr} {xs : List Value} (h : RdS w B s A n c xs) {p : Addr} {v : Value} (hp : w.cell? p = some v) (hv : ¬ v ∈ xs) (u : Value) : RdS (w.setCell p u) B s A n c xs :=
  ⟨h.len, h.none_, h.le, h.low, fun a ha j z hz => by
    have h1 := h.cell a ha j z hz
    by_cases e : p = a.add j
    · rw [← e, hp] at h1
      obtain rfl := Option.some.inj h1
      exact absurd (List.mem_of_getElem? hz) hv
    · rw [World.cell?_setCell_other _ _ _ _ e]
      exact h1⟩
theorem size_setCell (w : World) (p : Addr) (u : Value) : (w.setCell p u).heap.size = w.heap.size := by simp
theorem rowsV_mem {α : Type} {f : α → List Value} : ∀ {L : List α} {v : Value}, v ∈ rowsV f L → ∃ x ∈ L, v ∈ f x := by
  intro L
  induction L with
  | nil => intro v h; cases h
  | cons a r ih =>
    intro v h
    rcases List.mem_append.1 (show v ∈ f a ++ rowsV f r from h) with h | h
    · exact ⟨a, List.mem_cons_self .., h⟩
    · obtain ⟨x, hx, h2⟩ := ih h
      exact ⟨x, List.mem_cons_of_mem _ hx, h2⟩
theorem no_slice_e {Es : List EC} {A : Option Addr} {n c : Nat} : ¬ Value.slice A n c ∈ rowsV eC Es := fun h => by
  obtain ⟨x, _, hx⟩ := rowsV_mem h
  simp [eC] at hx
theorem no_slice_d {L : List D} {A : Option Addr} {n c : Nat} : ¬ Value.slice A n c ∈ dartsV L := fun h => by
  rw [dartsV_rows] at h
  obtain ⟨x, _, hx⟩ := rowsV_mem h
  simp [dC] at hx
/-- A diagram whose vertices are of one's own. -/
structure Wr (W : World) (lo : Nat) (A : Option Addr) (n c : Nat) (Us : List VC) (B : Option Addr) (m k : Nat) (Es : List EC) : Prop where
  v : W.ownsRow lo 42 5 (.slice A n c) n (rowsV vC Us)
  e : RdS W W.heap.size 4 B m k (rowsV eC Es)
  r : ∀ x ∈ Us, RgOk W x.2.1
section
variable {W W' : World} {lo : Nat} {A : Option Addr} {n c : Nat} {Us : List VC} {B : Option Addr} {m k : Nat} {Es : List EC}
theorem Cl.wr (h : Cl W lo A n c Us B m k Es) : Wr W lo A n c Us B m k Es := ⟨h.v, h.dg.e, h.dg.r⟩
theorem Wr.dg (h : Wr W lo A n c Us B m k Es) : DgIn W A n c Us B m k Es := ⟨own_rds h.v, h.e, h.r⟩
theorem Wr.bl (h : Wr W lo A n c Us B m k Es) (hb : Below W.heap.size W W') : Wr W' lo A n c Us B m k Es := ⟨own_up h.v hb, h.e.bl hb, fun x hx => (h.r x hx).bl hb⟩
theorem Wr.al (h : Wr W lo A n c Us B m k Es) (o : Obj) : Wr (W.alloc o) lo A n c Us B m k Es := h.bl (below1 W o)
theorem Wr.dr (h : Wr W lo A n c Us B m k Es) : Wr W.drew lo A n c Us B m k Es := h.bl ((Below.refl _ _).drew)
theorem rg_poke {g i : Nat} {R : Rg} (h : RgOk W R) {A1 : Option Addr} {n1 c1 : Nat} (hp : W.cell? ⟨g, i, none⟩ = some (.slice A1 n1 c1)) (u : Value) : RgOk (W.setCell ⟨g, i, none⟩ u) R :=
  ⟨h.1, by rw [size_setCell]; exact rds_poke h.2 hp no_slice_d u⟩
theorem Wr.far (h : Wr W lo A n c Us B m k Es) {g i : Nat} {A1 : Option Addr} {n1 c1 : Nat} (hp : W.cell? ⟨g, i, none⟩ = some (.slice A1 n1 c1)) (hg : ∀ a, A = some a → g ≠ a.block) (u : Value) : Wr (W.setCell ⟨g, i, none⟩ u) lo A n c Us B m k Es :=
  ⟨own_cell_far h.v (fun e => by
    cases A with
    | none => cases e
    | some a =>
      exact hg a rfl (Option.some.inj e)) u, by rw [size_setCell]; exact rds_poke h.e hp no_slice_e u, fun x hx => rg_poke (h.r x hx) hp u⟩
theorem Wr.put (h : Wr W lo A n c Us B m k Es) {j : Nat} {x : VC} (hx : Us[j]? = some x) (hj : j < n) (R : Rg) (hR : RgOk W R) :
    ∃ g, A = some ⟨g, 0, none⟩ ∧ lo ≤ g ∧ (∃ cs, Whole W g 42 cs) ∧ W.cell? ⟨g, j * 5 + 2, none⟩ = some (.slice x.2.1.1 x.2.1.2.1 x.2.1.2.2.1) ∧ W.frozen? ⟨g, j * 5 + 2, none⟩ = false ∧
      Wr (W.setCell ⟨g, j * 5 + 2, none⟩ (.slice R.1 R.2.1 R.2.2.1)) lo A n c (Us.set j (x.1, R, x.2.2)) B m k Es := by
  obtain ⟨g, junk, e, hlo, hw, hc, hf, ho⟩ := own_poke (i := 2) (y := (x.1, R, x.2.2)) (u := .slice R.1 R.2.1 R.2.2.1) vC_len h.v hx hj (by omega) rfl
  have hc2 : W.cell? ⟨g, j * 5 + 2, none⟩ = some (.slice x.2.1.1 x.2.1.2.1 x.2.1.2.2.1) := hc.trans rfl
  refine ⟨g, e, hlo, ⟨_, hw⟩, hc2, hf, ho, by rw [size_setCell]; exact rds_poke h.e hc2 no_slice_e _, fun y hy => rg_poke ?_ hc2 _⟩
  rcases List.mem_or_eq_of_mem_set hy with hy | rfl
  · exact h.r y hy
  · exact hR
end
end Go.Proofs.Ytpindjknngcccaa
